/-
  Two results, of which the first lies in a cell. No program is named here.
-/
import Derived.Test.YtmfdlkodmhhpiaaDoorRow
import Derived.Laws.ResultCell
namespace Go.Proofs.YtmfdlkodmhhpiaaDoor
open Go.RowKit
theorem ret_box2 {P : Program} {W : World} {Z : Nat} {t : TypeId} {cs : Array Value} {f : Func} {R : Ending → World → Prop} {a : Act} {d : TypeDesc} {p u : Tmp} {v : Value} (h : f.results = #[.cell p t, .tmp u]) (hu : P.underlying t = some d) (hd : (match d with | .struct _ | .array _ _ => true | _ => false) = true) (hi : (P.info? t).map (·.size) = some cs.size)
    (hp : a.tmps.getD p undef = .pointer (some ⟨Z, 0, none⟩)) (hv : a.tmps.getD u undef = v) (hb : Box Z t cs W) (hdf : a.defers = []) (hr : R (.returned (.tuple #[.agg cs, v])) W) : bodyPost P f R .ret a W := by
  refine bodyPost_ret (v := .tuple #[.agg cs, v]) ?_ hdf hr
  rw [results_cell_tmp h, hp, hv]
  simp only [asAddr, Sem.run_pure, Result.andThen_ok, run_loadVar_row W Z t t cs (0, 0) d hb hu hd hi]
/-- A guarded load of a whole struct, where the guard holds. -/
theorem load_box_on {P : Program} {W : World} {Z : Nat} {t : TypeId} {cs : Array Value} {ops : Array Oper} {rest : List Oper} {a : Act} {Q : Exit → Act → World → Prop} {d : TypeDesc} {dst p : Tmp} {t0 : TypeId} {s0 : String} {f0 : Array Edge} {g : Nat} {b c : Bool} {u : Tmp}
    (hg : dstOf ops g = some u) (hc : a.eval (.tmp u) = .bool c) (hcb : (c == b) = true) (hu : P.underlying t = some d) (hd : (match d with | .struct _ | .array _ _ => true | _ => false) = true) (hi : (P.info? t).map (·.size) = some cs.size) (hp : a.eval (.tmp p) = .pointer (some ⟨Z, 0, none⟩)) (hb : Box Z t cs W)
    (h : wpList P ops Q rest (a.put (some dst) (.agg cs)) W) : wpList P ops Q (⟨some dst, .load t (.tmp p), t0, s0, f0, some (g, b)⟩ :: rest) a W := by
  refine wpList_step fun K hK => ?_
  rw [wanted_is (o := ⟨some dst, .load t (.tmp p), t0, s0, f0, some (g, b)⟩) rfl hg hc, if_pos hcb]
  have h2 := run_load_box (P := P) (W := W) (ρ := a.eval) (o := ⟨some dst, .load t (.tmp p), t0, s0, f0, some (g, b)⟩) rfl hp hu hd hi hb
  unfold Oper.wp
  rw [h2]
  exact hK _ _ h
end Go.Proofs.YtmfdlkodmhhpiaaDoor
