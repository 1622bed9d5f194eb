/-
  Structs that are compared, min and max, two results of which the first lies in a cell, by states. No program is named here.
-/
import Derived.Test.YtojapodjlpffdaaAbsMake
import Derived.Test.YtojapodjlpffdaaRow2
namespace Go.Proofs.Ytojapodjlpffdaa
open Go.RowKit
/-- Values without memory. -/
inductive ValsAre : List AVal → List Value → Prop where
  | nil : ValsAre [] []
  | cons {v : Value} {xs : List AVal} {vs : List Value} (t : ValsAre xs vs) : ValsAre (.val v :: xs) (v :: vs)
theorem ValsAre.eq : ∀ {xs : List AVal} {vs : List Value}, ValsAre xs vs → xs = vs.map .val := by
  intro xs vs h
  induction h with
  | nil => rfl
  | cons _ ih => rw [ih]; rfl
section
variable {P : Program} {k : Nat} {st : St} {o : Oper}
theorem opok_binA {op : BinOp} {t yt : TypeId} {x y : Operand} {as bs : List AVal} {us vs : List Value} {cv : Value} (ho : o.op = .binOp op t x y yt) (hx : st.aop x = .agg as) (ha : ValsAre as us) (hy : st.aop y = .agg bs) (hb : ValsAre bs vs)
    (h : ∀ w, (do eqGuard op t x y (.agg us.toArray) (.agg vs.toArray); binOp op t (.agg us.toArray) (.agg vs.toArray) : Sem Value).run P w = .ok cv w) : OpOk P k st o ⟨.val cv, [], [], []⟩ :=
  opok_quiet fun ψ prot obj w ρ _ hr _ => by
    rw [ha.eq] at hx; rw [hb.eq] at hy
    have h1 := (hx ▸ hr x (by simp [ho, Op.operands]) : VRel ψ prot w (.agg (us.map .val)) (ρ x)).agg_vals
    have h2 := (hy ▸ hr y (by simp [ho, Op.operands]) : VRel ψ prot w (.agg (vs.map .val)) (ρ y)).agg_vals
    refine ⟨cv, ?_, .val _⟩
    have := h w
    simp only [Sem.run_bind] at this
    simp only [execOp, ho, h1, h2, Sem.run_bind, Sem.run_pure]
    rw [this]; rfl
theorem opok_min {x y : Operand} {t t' : TypeId} {a b : Int} (ho : o.op = .call { callee := .builtin .min, args := #[x, y], argTypes := #[t, t'] }) (hx : st.aop x = .val (.int .i64 a)) (hy : st.aop y = .val (.int .i64 b)) : OpOk P k st o ⟨.val (.int .i64 (min a b)), [], [], []⟩ :=
  opok_quiet fun ψ prot obj w ρ _ hr _ => by
    have h1 := (hx ▸ hr x (by simp [ho, Op.operands, Call.operands]) : VRel ψ prot w (.val (.int .i64 a)) (ρ x)).val_eq
    have h2 := (hy ▸ hr y (by simp [ho, Op.operands, Call.operands]) : VRel ψ prot w (.val (.int .i64 b)) (ρ y)).val_eq
    refine ⟨_, ?_, .val _⟩
    simp [execOp, ho, resolve, invoke, builtin, h1, h2, Builtin.min_, Builtin.min2, go_sem]
    try (by_cases h : b < a <;> simp [h] <;> omega)
theorem opok_max {x y : Operand} {t t' : TypeId} {a b : Int} (ho : o.op = .call { callee := .builtin .max, args := #[x, y], argTypes := #[t, t'] }) (hx : st.aop x = .val (.int .i64 a)) (hy : st.aop y = .val (.int .i64 b)) : OpOk P k st o ⟨.val (.int .i64 (max a b)), [], [], []⟩ :=
  opok_quiet fun ψ prot obj w ρ _ hr _ => by
    have h1 := (hx ▸ hr x (by simp [ho, Op.operands, Call.operands]) : VRel ψ prot w (.val (.int .i64 a)) (ρ x)).val_eq
    have h2 := (hy ▸ hr y (by simp [ho, Op.operands, Call.operands]) : VRel ψ prot w (.val (.int .i64 b)) (ρ y)).val_eq
    refine ⟨_, ?_, .val _⟩
    simp [execOp, ho, resolve, invoke, builtin, h1, h2, Builtin.max_, Builtin.max2, go_sem]
    try (split <;> omega)
theorem res_cell2 {fn : Func} {a u : Nat} {t : TypeId} {n kk : Nat} {bt : TypeId} {cs : List AVal} {y : AVal} (hr : fn.results = #[.cell a t, .tmp u]) (ha : st.get a = .ptr n kk 0) (hn : st.obj n = some (kk, .box bt cs)) (hu : st.get u = y) (ht : aggType P t = true) (hs : sizeIs P t cs.length) : ResOk P fn st (.tuple [.agg cs, y]) := fun ψ prot w tmps r h => by
  have h1 := h a
  have hy := h u
  rw [ha] at h1
  rw [hu] at hy
  obtain ⟨b, cap, hv, h2⟩ := h1.ptr_inv
  obtain ⟨loc, h3, h4⟩ := r.live n kk _ hn
  rw [h2] at h3; injection h3 with h3; subst h3
  obtain ⟨b', vs, h0, hh, h5⟩ := h4
  injection h0 with h0; subst h0
  have hsz : (P.info? t).map (·.size) = some vs.toArray.size := by have := hs; unfold sizeIs at this; rw [this]; simp [h5.1]
  have hf : VRel ψ prot w (.tuple [.agg cs, y]) (.tuple #[.agg vs.toArray, tmps.getD u undef]) := .tuple _ _ rfl fun i z v e1 e2 => by
    match i with
    | 0 => simp at e1 e2; subst e1; subst e2; exact VRels.agg (by simpa using h5)
    | 1 => simp at e1 e2; subst e1; rw [← e2]; simpa using hy
    | i + 2 => simp at e1
  refine ⟨_, ?_, hf⟩
  rw [results_cell_tmp hr, hv]
  have q : (loadVar t ⟨b, 0, none⟩).run P w = .ok (.agg vs.toArray) w := by
    rcases aggType_spec ht with ⟨fs, hu⟩ | ⟨m, e, hu⟩
    · exact run_loadVar_row w b bt t vs.toArray (0, 0) _ hh hu rfl hsz
    · exact run_loadVar_row w b bt t vs.toArray (0, 0) _ hh hu rfl hsz
  simp only [asAddr, Sem.run_pure, Result.andThen_ok, q]
end
end Go.Proofs.Ytojapodjlpffdaa
