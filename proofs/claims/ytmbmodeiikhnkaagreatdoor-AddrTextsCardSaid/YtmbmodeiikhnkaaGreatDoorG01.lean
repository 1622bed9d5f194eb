/-
  A whole struct in memory: loaded and stored in one step, whatever its number of cells. No program is named here.
-/
import Derived.Test.YtmbmodeiikhnkaaGreatDoorUse
import Derived.Deep.WholeRow
import Derived.Laws.Rows
import Derived.Test.YtmbmodeiikhnkaaGreatDoorMem
import Derived.ProofKit
import Derived.ChangeSlices
import Derived.Laws.AppendOwnNone
namespace Go.Proofs.YtmbmodeiikhnkaaGreatDoor
open Go.RowKit
section
variable {P : Program} {W : World} {Z : Nat} {t : TypeId} {cs us : Array Value}
theorem box_load (hb : Box Z t cs W) (n : Nat) (hn : cs.size = n) : (loadCellsFrom ⟨Z, 0, none⟩ 0 n #[]).run P W = .ok cs W := by
  subst hn
  have := run_loadCells_list (P := P) W ⟨Z, 0, none⟩ cs.toList (fun j v hv => by
    have hadd : (⟨Z, 0, none⟩ : Addr).add j = ⟨Z, j, none⟩ := by unfold Addr.add; split <;> simp_all
    rw [hadd, hb.at_ j]
    simpa using hv)
  simpa [loadCells] using this
theorem box_store (hb : Box Z t cs W) (hn : cs.size = us.size) (h1 : us.all (·.oneCell') = true) : (storeCells ⟨Z, 0, none⟩ us.toList 0).run P W = .ok () (W.setRow Z us) := by
  have h := run_storeCells_at (P := P) Z 0 t us.toList 0 cs W hb (by simp; omega) (fun v hv => (Array.all_eq_true_iff_forall_mem.1 h1) v (by simpa using hv))
  rw [h]
  congr 2
  simp
  have : cs.toList.drop us.size = [] := List.drop_eq_nil_of_le (by simp; omega)
  simp [this]
theorem box_stored (hb : Box Z t cs W) : Box Z t us (W.setRow Z us) := setRow_heap W Z cs us t _ hb
theorem only_stored : OnlyBlock Z W (W.setRow Z us) := by
  refine ⟨rfl, rfl, rfl, by simp [World.setRow], fun k hk => ?_⟩
  simp only [World.setRow]
  rw [Array.getElem?_modify]
  rw [if_neg (Ne.symm hk)]

/-- One step of the walk: a whole struct is loaded. -/
theorem load_box {ops : Array Oper} {rest : List Oper} {a : Act} {Q : Exit → Act → World → Prop} {d : TypeDesc} {dst p : Tmp} {t0 : TypeId} {s0 : String} {f0 : Array Edge}
    (hu : P.underlying t = some d) (hd : (match d with | .struct _ | .array _ _ => true | _ => false) = true) (hi : (P.info? t).map (·.size) = some cs.size) (hp : a.eval (.tmp p) = .pointer (some ⟨Z, 0, none⟩)) (hb : Box Z t cs W)
    (h : wpList P ops Q rest (a.put (some dst) (.agg cs)) W) : wpList P ops Q (⟨some dst, .load t (.tmp p), t0, s0, f0, none⟩ :: rest) a W :=
  wpList_load_row rfl t (.tmp p) rfl Z hp t cs (0, 0) d hb hu hd hi h
/-- One step of the walk: a whole struct is stored. -/
theorem store_box {ops : Array Oper} {rest : List Oper} {a : Act} {Q : Exit → Act → World → Prop} {p x : Tmp} {t0 : TypeId} {s0 : String} {f0 : Array Edge}
    (hi : (P.info? t).map (·.size) = some us.size) (hp : a.eval (.tmp p) = .pointer (some ⟨Z, 0, none⟩)) (hx : a.eval (.tmp x) = .agg us) (hb : Box Z t cs W) (hn : cs.size = us.size) (h1 : us.all (·.oneCell') = true)
    (h : ∀ W', Box Z t us W' → OnlyBlock Z W W' → wpList P ops Q rest a W') : wpList P ops Q (⟨none, .store t (.tmp p) (.tmp x), t0, s0, f0, none⟩ :: rest) a W := by
  refine wpList_plain rfl fun K hK => ?_
  have hr : (execOp a.eval ⟨none, .store t (.tmp p) (.tmp x), t0, s0, f0, none⟩).run P W = .ok .skip (W.setRow Z us) := by
    have h2 := run_storeVar_row (P := P) W Z t t cs us hb hi hn h1
    simp only [execOp, hp, hx, Instr.storeAt, Instr.sureAddr, Sem.run_bind, Sem.run_pure, Result.andThen_ok, h2]
  unfold Oper.wp
  rw [hr]
  exact hK _ _ (h _ (box_stored hb) only_stored)
theorem run_load_box {ρ : Operand → Value} {o : Oper} {p : Operand} {d : TypeDesc} (ho : o.op = .load t p) (hp : ρ p = .pointer (some ⟨Z, 0, none⟩)) (hu : P.underlying t = some d) (hd : (match d with | .struct _ | .array _ _ => true | _ => false) = true)
    (hi : (P.info? t).map (·.size) = some cs.size) (hb : Box Z t cs W) : (execOp ρ o).run P W = .ok (.value (.agg cs)) W := by
  have h2 := run_loadVar_row (P := P) W Z t t cs (0, 0) d hb hu hd hi
  simp only [execOp, ho, hp, Instr.loadAt, Instr.sureAddr, Sem.run_bind, Sem.run_pure, Result.andThen_ok, h2]
theorem run_store_box {ρ : Operand → Value} {o : Oper} {p x : Operand} (ho : o.op = .store t p x) (hp : ρ p = .pointer (some ⟨Z, 0, none⟩)) (hx : ρ x = .agg us) (hb : Box Z t cs W) (hi : (P.info? t).map (·.size) = some us.size) (hn : cs.size = us.size) (h1 : us.all (·.oneCell') = true) :
    ∃ W', (execOp ρ o).run P W = .ok .skip W' ∧ Box Z t us W' ∧ OnlyBlock Z W W' := by
  have h2 := run_storeVar_row (P := P) W Z t t cs us hb hi hn h1
  refine ⟨_, ?_, box_stored hb, only_stored⟩
  simp only [execOp, ho, hp, hx, Instr.storeAt, Instr.sureAddr, Sem.run_bind, Sem.run_pure, Result.andThen_ok, h2]
/-- A result that lies in a cell. -/
theorem ret_box {f : Func} {R : Ending → World → Prop} {a : Act} {d : TypeDesc} {p : Tmp} (h : f.results = #[.cell p t]) (hu : P.underlying t = some d) (hd : (match d with | .struct _ | .array _ _ => true | _ => false) = true) (hi : (P.info? t).map (·.size) = some cs.size)
    (hp : a.tmps.getD p undef = .pointer (some ⟨Z, 0, none⟩)) (hb : Box Z t cs W) (hdf : a.defers = []) (hr : R (.returned (.agg cs)) W) : bodyPost P f R .ret a W :=
  bodyPost_ret (results_cell_row h _ W Z t cs (0, 0) d hp hb hu hd hi) hdf hr
end
end Go.Proofs.YtmbmodeiikhnkaaGreatDoor
namespace Go.Proofs.YtmbmodeiikhnkaaGreatDoor
open Go.ChangeShapes Go.WideShapes Go.ChangeAt Go.RowKit

/-- What is known of a slice of integers that came in. -/
structure Ints (k : IntKind) (w : World) (A : Option Addr) (n c : Nat) (zs : List Int) : Prop where
  len : zs.length = n
  cap : n ≤ c
  max : c ≤ maxLen
  lies : Lies w.heap.size A (zs.map (Value.int k)) w
  wf : ∀ z ∈ zs, (Lit.int k z).wf = true
  nil : A = none → c = 0

section
variable {H : Type} {enc : TypeId × Value → H} {P : Program} {W : World}
theorem open_ints_any {t e : TypeId} {k : IntKind} {v : Value} {d : DataW H} {p : List MemPlace} {r : Reach} {b0 : Nat} (ht : P.underlying t = some (.slice e)) (he : P.underlying e = some (.int k)) (hc : P.cellsOf e = 1)
    (hval : Value.okWide P W r b0 t v) (h : DataW.Trod enc P W 0 (fun _ => true) true t v d p) : ∃ A n c zs, v = .slice A n c ∧ Ints k W A n c zs := by
  obtain ⟨a0, n0, c0, rfl⟩ := okWide_slice ht hval
  obtain ⟨fuel, hf⟩ := h
  rcases open_ints ht he hc hf with ⟨h1, h2⟩ | ⟨a, len, cap, zs, h1, h2, h3, h4, h5, h6, h7, h8⟩
  · simp [Value.cells] at h1
    obtain ⟨rfl, rfl, rfl⟩ := h1
    exact ⟨none, 0, 0, [], rfl, rfl, Nat.le_refl _, Nat.zero_le _, Lies.nothing, fun z hz => by simp at hz, fun _ => rfl⟩
  · simp [Value.cells] at h1
    obtain ⟨rfl, rfl, rfl⟩ := h1
    simp at h5
    refine ⟨some a, n0, c0, zs.take n0, rfl, by simp; omega, h3, h4, ?_, fun z hz => h8 z (List.mem_of_mem_take hz), fun h => by cases h⟩
    intro i hi
    have hin : i < n0 ∧ i < zs.length := by simp at hi; omega
    have hcell := h7 i hin.2
    refine ⟨a, .int k (zs.getD i 0), rfl, ?_, ?_, hcell⟩
    · have := World.block_lt_of_cell? _ _ hcell
      rwa [block_add] at this
    · rw [List.getElem?_map, List.getElem?_take_of_lt hin.1, List.getElem?_eq_getElem hin.2, List.getD_eq_getElem?_getD, List.getElem?_eq_getElem hin.2]
      rfl
end

section
variable {P : Program} {w : World}
/-- One more element (one cell) behind what the call owns. -/
theorem push_one {ops : Array Oper} {rest : List Oper} {o : Oper} {a : Act} {Q : Exit → Act → World → Prop} (hgd : o.guard = none) (s x : Operand) (t : TypeId)
    (ho : o.op = .call { callee := .builtin .append, args := #[s, x], argTypes := #[t, t] })
    (base : Nat) (e : TypeId) (z : Value) (bytes : Nat) (ht : P.underlying t = some (.slice e)) (hi : (P.info? e).map (fun i => (i.zero, i.size, i.bytes)) = some (some z, 1, bytes)) (hz : z.cells.size = 1)
    (v : Value) (n : Nat) (xs : List Value) (hs : a.eval s = v) (hown : w.ownsRow base e 1 v n xs) (u : Value)
    (hx : a.eval x = .slice (some ⟨w.heap.size, 0, none⟩) 1 1) (hu : u.oneCell' = true) (hn : n + 1 ≤ maxLen) (hbytes : (n + 1) * bytes ≤ 140737488355328) (hbase : base ≤ w.heap.size)
    (h : ∀ v' w', w'.ownsRow base e 1 v' (n + 1) (xs ++ [u]) → (w.alloc (.cells #[u] e)).grownBy w' v.ownBlock → wpList P ops Q rest (a.put o.dst v') w') : wpList P ops Q (o :: rest) a (w.alloc (.cells #[u] e)) := by
  obtain ⟨i0, hi0, h0, h1, h2⟩ := info_parts hi
  refine wpList_append_own _ hgd s x t ho base e i0 z 1 bytes ht hi0 h0 h1 h2 hz (by omega) v n xs hs (hown.alloc _) ⟨w.heap.size, 0, none⟩ 1 1 [u] hx rfl ?_ ?_ hn hbytes (by simp; omega) (fun v' w' h3 h4 _ => h v' w' h3 h4)
  · intro j u' hj
    match j, hj with
    | 0, hj => simp at hj; subst hj; simp [Addr.add]
  · intro u' hu'; simp at hu'; subst hu'; exact hu

/-- What stands below the row's base is as it was behind such a step. -/
theorem push_below {B base n : Nat} {w0 w1 : World} {e : TypeId} {v : Value} {xs : List Value} {o : Obj} (hb : Below B w0 w) (hown : w.ownsRow base e 1 v n xs) (hg : (w.alloc o).grownBy w1 v.ownBlock) (h1 : B ≤ base) (h2 : B ≤ w.heap.size) : Below B w0 w1 :=
  (hb.alloc h2 o).grown hg (by simp; omega) (fun j hj => by have := (hown.lt j hj).1; omega)
theorem push_box {g base n : Nat} {w1 : World} {t e : TypeId} {v : Value} {xs : List Value} {cs : Array Value} {o : Obj} (hb : Box g t cs w) (hown : w.ownsRow base e 1 v n xs) (hg : (w.alloc o).grownBy w1 v.ownBlock) (h1 : g < base) : Box g t cs w1 :=
  (hb.past o).grow hg (fun h => by have := (hown.lt g h.symm).1; omega)
end

theorem own_less {w : World} {base base' n : Nat} {e : TypeId} {size : Nat} {v : Value} {xs : List Value} (h : w.ownsRow base e size v n xs) (hb : base' ≤ base) : w.ownsRow base' e size v n xs := by
  obtain ⟨h1, h2 | ⟨g, cap, cur, h2, h3, h4⟩⟩ := h
  · exact ⟨h1, .inl h2⟩
  · exact ⟨h1, .inr ⟨g, cap, cur, h2, by omega, h4⟩⟩
theorem own_open {w : World} {base n : Nat} {e : TypeId} {v : Value} {xs : List Value} (h : w.ownsRow base e 1 v n xs) : ∃ A c, v = .slice A n c ∧ n ≤ c ∧ c ≤ maxLen ∧ xs.length = n ∧ Lies w.heap.size A xs w := by
  have hl : xs.length = n := by have := h.1; omega
  rcases h.2 with ⟨rfl, rfl⟩ | ⟨g, cap, cur, rfl, _, _, h1, h2, _⟩
  · exact ⟨none, 0, rfl, Nat.le_refl _, Nat.zero_le _, hl, fun k hk => absurd hk (by omega)⟩
  · exact ⟨_, cap, rfl, h1, h2, hl, Lies.own h⟩
theorem own_under {w w' : World} {B base n : Nat} {e : TypeId} {size : Nat} {v : Value} {xs : List Value} (h : w.ownsRow base e size v n xs) (hb : Below B w w') (hB : w.heap.size ≤ B) : w'.ownsRow base e size v n xs :=
  h.kept (row := none) ⟨hb.os, hb.tape, hb.output, hb.size, fun i hi _ => hb.block i (by omega)⟩ (by cases h : v.ownBlock <;> simp)
theorem old_cells {w w1 : World} (hb : Below w.heap.size w w1) :
    (∀ b o, b < w.heap.size → w1.cell? ⟨b, o, none⟩ = w.cell? ⟨b, o, none⟩) ∧ (∀ b o, b < w.heap.size → w1.frozen? ⟨b, o, none⟩ = w.frozen? ⟨b, o, none⟩) :=
  ⟨fun b o h => hb.cell (p := ⟨b, o, none⟩) h, fun b o h => hb.frozen (p := ⟨b, o, none⟩) h⟩
theorem Box.madeAt {g : Nat} {w : World} {t : TypeId} {cs : Array Value} (h : g = w.heap.size) : Box g t cs (w.alloc (.cells cs t)) := by subst h; exact Box.made _ _ _

/-- The k-th of a list of integers that lies in memory. -/
theorem Lies.int {B : Nat} {A : Option Addr} {K : IntKind} {zs : List Int} {w : World} (h : Lies B A (zs.map (Value.int K)) w) {k : Nat} (hk : k < zs.length) : ∃ a, A = some a ∧ a.block < B ∧ w.cell? (a.add k) = some (.int K (zs.getD k 0)) := by
  obtain ⟨a, v, h1, h2, h3, h4⟩ := h k (by simpa using hk)
  have e : v = .int K (zs.getD k 0) := by
    rw [List.getElem?_map, List.getElem?_eq_getElem hk] at h3
    rw [List.getD_eq_getElem?_getD, List.getElem?_eq_getElem hk]
    simpa using h3.symm
  exact ⟨a, h1, h2, by rw [h4, e]⟩
theorem Lies.take {B : Nat} {A : Option Addr} {xs : List Value} {w : World} (h : Lies B A xs w) (n : Nat) : Lies B A (xs.take n) w := fun k hk => by
  have hk' : k < n ∧ k < xs.length := by simp at hk; omega
  obtain ⟨a, v, h1, h2, h3, h4⟩ := h k hk'.2
  exact ⟨a, v, h1, h2, by rw [List.getElem?_take_of_lt hk'.1]; exact h3, h4⟩
theorem take_more (zs : List Int) (k : Nat) (hk : k < zs.length) : zs.take (k + 1) = zs.take k ++ [zs.getD k 0] := by
  rw [List.take_add_one, List.getElem?_eq_getElem hk, List.getD_eq_getElem?_getD, List.getElem?_eq_getElem hk]; rfl
end Go.Proofs.YtmbmodeiikhnkaaGreatDoor
namespace Go.Proofs.YtmbmodeiikhnkaaGreatDoor
open Go.RowKit
section
variable {P : Program} {w : World}
/-- What stands below the row's base is as it was behind such a step. -/
theorem lit_below {B base n : Nat} {w0 w1 : World} {e : TypeId} {v : Value} {xs : List Value} {o : Obj} (hb : Below B w0 w) (hown : w.ownsRow base e 1 v n xs) (hg : (w.alloc o).grownBy w1 v.ownBlock) (h1 : B ≤ base) (h2 : B ≤ w.heap.size) : Below B w0 w1 :=
  (hb.alloc h2 o).grown hg (by simp; omega) (fun j hj => by have := (hown.lt j hj).1; omega)
end
end Go.Proofs.YtmbmodeiikhnkaaGreatDoor
