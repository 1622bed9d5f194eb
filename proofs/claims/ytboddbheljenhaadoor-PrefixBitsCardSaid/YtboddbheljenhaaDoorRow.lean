/-
  A whole struct in memory: loaded and stored in one step, whatever its number of cells. No program is named here.
-/
import Derived.Test.YtboddbheljenhaaDoorUse
import Derived.Deep.WholeRow
import Derived.Laws.Rows
namespace Go.Proofs.YtboddbheljenhaaDoor
open Go.RowKit
section
variable {P : Program} {W : World} {Z : Nat} {t : TypeId} {cs us : Array Value}
theorem box_load (hb : Box Z t cs W) (n : Nat) (hn : cs.size = n) : (loadCellsFrom ⟨Z, 0, none⟩ 0 n #[]).run P W = .ok cs W := by
  subst hn
  have := run_loadCells_list (P := P) W ⟨Z, 0, none⟩ cs.toList (fun j v hv => by
    have hadd : (⟨Z, 0, none⟩ : Addr).add j = ⟨Z, j, none⟩ := by unfold Addr.add; split <;> simp_all
    rw [hadd, hb.at_ j]
    simpa using hv)
  simpa [loadCells] using this
theorem box_store (hb : Box Z t cs W) (hn : cs.size = us.size) (h1 : us.all (·.oneCell') = true) : (storeCells ⟨Z, 0, none⟩ us.toList 0).run P W = .ok () (W.setRow Z us) := by
  have h := run_storeCells_at (P := P) Z 0 t us.toList 0 cs W hb (by simp; omega) (fun v hv => (Array.all_eq_true_iff_forall_mem.1 h1) v (by simpa using hv))
  rw [h]
  congr 2
  simp
  have : cs.toList.drop us.size = [] := List.drop_eq_nil_of_le (by simp; omega)
  simp [this]
theorem box_stored (hb : Box Z t cs W) : Box Z t us (W.setRow Z us) := setRow_heap W Z cs us t _ hb
theorem only_stored : OnlyBlock Z W (W.setRow Z us) := by
  refine ⟨rfl, rfl, rfl, by simp [World.setRow], fun k hk => ?_⟩
  simp only [World.setRow]
  rw [Array.getElem?_modify]
  rw [if_neg (Ne.symm hk)]

/-- One step of the walk: a whole struct is loaded. -/
theorem load_box {ops : Array Oper} {rest : List Oper} {a : Act} {Q : Exit → Act → World → Prop} {d : TypeDesc} {dst p : Tmp} {t0 : TypeId} {s0 : String} {f0 : Array Edge}
    (hu : P.underlying t = some d) (hd : (match d with | .struct _ | .array _ _ => true | _ => false) = true) (hi : (P.info? t).map (·.size) = some cs.size) (hp : a.eval (.tmp p) = .pointer (some ⟨Z, 0, none⟩)) (hb : Box Z t cs W)
    (h : wpList P ops Q rest (a.put (some dst) (.agg cs)) W) : wpList P ops Q (⟨some dst, .load t (.tmp p), t0, s0, f0, none⟩ :: rest) a W :=
  wpList_load_row rfl t (.tmp p) rfl Z hp t cs (0, 0) d hb hu hd hi h
/-- One step of the walk: a whole struct is stored. -/
theorem store_box {ops : Array Oper} {rest : List Oper} {a : Act} {Q : Exit → Act → World → Prop} {p x : Tmp} {t0 : TypeId} {s0 : String} {f0 : Array Edge}
    (hi : (P.info? t).map (·.size) = some us.size) (hp : a.eval (.tmp p) = .pointer (some ⟨Z, 0, none⟩)) (hx : a.eval (.tmp x) = .agg us) (hb : Box Z t cs W) (hn : cs.size = us.size) (h1 : us.all (·.oneCell') = true)
    (h : ∀ W', Box Z t us W' → OnlyBlock Z W W' → wpList P ops Q rest a W') : wpList P ops Q (⟨none, .store t (.tmp p) (.tmp x), t0, s0, f0, none⟩ :: rest) a W := by
  refine wpList_plain rfl fun K hK => ?_
  have hr : (execOp a.eval ⟨none, .store t (.tmp p) (.tmp x), t0, s0, f0, none⟩).run P W = .ok .skip (W.setRow Z us) := by
    have h2 := run_storeVar_row (P := P) W Z t t cs us hb hi hn h1
    simp only [execOp, hp, hx, Instr.storeAt, Instr.sureAddr, Sem.run_bind, Sem.run_pure, Result.andThen_ok, h2]
  unfold Oper.wp
  rw [hr]
  exact hK _ _ (h _ (box_stored hb) only_stored)
theorem run_load_box {ρ : Operand → Value} {o : Oper} {p : Operand} {d : TypeDesc} (ho : o.op = .load t p) (hp : ρ p = .pointer (some ⟨Z, 0, none⟩)) (hu : P.underlying t = some d) (hd : (match d with | .struct _ | .array _ _ => true | _ => false) = true)
    (hi : (P.info? t).map (·.size) = some cs.size) (hb : Box Z t cs W) : (execOp ρ o).run P W = .ok (.value (.agg cs)) W := by
  have h2 := run_loadVar_row (P := P) W Z t t cs (0, 0) d hb hu hd hi
  simp only [execOp, ho, hp, Instr.loadAt, Instr.sureAddr, Sem.run_bind, Sem.run_pure, Result.andThen_ok, h2]
theorem run_store_box {ρ : Operand → Value} {o : Oper} {p x : Operand} (ho : o.op = .store t p x) (hp : ρ p = .pointer (some ⟨Z, 0, none⟩)) (hx : ρ x = .agg us) (hb : Box Z t cs W) (hi : (P.info? t).map (·.size) = some us.size) (hn : cs.size = us.size) (h1 : us.all (·.oneCell') = true) :
    ∃ W', (execOp ρ o).run P W = .ok .skip W' ∧ Box Z t us W' ∧ OnlyBlock Z W W' := by
  have h2 := run_storeVar_row (P := P) W Z t t cs us hb hi hn h1
  refine ⟨_, ?_, box_stored hb, only_stored⟩
  simp only [execOp, ho, hp, hx, Instr.storeAt, Instr.sureAddr, Sem.run_bind, Sem.run_pure, Result.andThen_ok, h2]
/-- A result that lies in a cell. -/
theorem ret_box {f : Func} {R : Ending → World → Prop} {a : Act} {d : TypeDesc} {p : Tmp} (h : f.results = #[.cell p t]) (hu : P.underlying t = some d) (hd : (match d with | .struct _ | .array _ _ => true | _ => false) = true) (hi : (P.info? t).map (·.size) = some cs.size)
    (hp : a.tmps.getD p undef = .pointer (some ⟨Z, 0, none⟩)) (hb : Box Z t cs W) (hdf : a.defers = []) (hr : R (.returned (.agg cs)) W) : bodyPost P f R .ret a W :=
  bodyPost_ret (results_cell_row h _ W Z t cs (0, 0) d hp hb hu hd hi) hdf hr
end
end Go.Proofs.YtboddbheljenhaaDoor
