/-
  More operations by states: structs that are built, nil checks, elements, bytes as texts, results in cells. No program is named here.
-/
import Derived.Test.YtojapodjlpffdaaAbsCut
import Derived.Test.YtojapodjlpffdaaText
namespace Go.Proofs.Ytojapodjlpffdaa
open Go.RowKit
/-- The parts of a struct, put into the cells of its zero value. -/
def fillA (place : Nat → Option (Nat × Nat)) (cells : List AVal) : List (Nat × AVal) → Option (List AVal)
  | [] => some cells
  | (i, v) :: rest => match place i with
    | none => none
    | some (off, size) => if v.known && (v.flat.length == size) && Nat.ble (off + v.flat.length) cells.length then fillA place (setCells cells off v.flat) rest else none
theorem foldl_segment (off : Nat) (vs : Array Value) (cs : Array Value) (h : off + vs.size ≤ cs.size) :
    (vs.zipIdx.foldl (fun cs (x : Value × Nat) => cs.setIfInBounds (off + x.2) x.1) cs).toList = cs.toList.take off ++ vs.toList ++ cs.toList.drop (off + vs.size) := by
  obtain ⟨h1, h2⟩ := Great.foldl_set off vs.toList 0 cs
  have e : vs.zipIdx.foldl (fun cs (x : Value × Nat) => cs.setIfInBounds (off + x.2) x.1) cs = (vs.toList.zipIdx 0).foldl (fun cs (x : Value × Nat) => cs.setIfInBounds (off + x.2) x.1) cs := by
    rw [← Array.foldl_toList]; simp
  rw [e]
  apply List.ext_getElem?
  intro k
  rw [Array.getElem?_toList, h2 k]
  simp only [Nat.add_zero, Array.length_toList]
  by_cases hk1 : k < off
  · rw [if_neg (by omega), List.append_assoc, List.getElem?_append_left (by simp; omega), List.getElem?_take_of_lt hk1, Array.getElem?_toList]
  · by_cases hk2 : k < off + vs.size
    · rw [if_pos ⟨by omega, hk2, by omega⟩, List.append_assoc, List.getElem?_append_right (by simp; omega), List.getElem?_append_left (by simp; omega)]
      simp [Nat.min_eq_left (show off ≤ cs.size by omega)]
    · rw [if_neg (by omega), List.getElem?_append_right (by simp; omega), List.getElem?_drop]
      simp only [List.length_append, List.length_take, Array.length_toList, Nat.min_eq_left (show off ≤ cs.size by omega)]
      rw [show off + vs.size + (k - (off + vs.size)) = k by omega, Array.getElem?_toList]
theorem fill_rel {ψ : Ghost} {prot : Nat → Prop} {w : World} {place : Nat → Option (Nat × Nat)} : ∀ (ps : List (Nat × AVal)) (qs : List (Nat × Value)) (cells out : List AVal) (cs : Array Value), qs.length = ps.length → (∀ (j : Nat) p q, ps[j]? = some p → qs[j]? = some q → p.1 = q.1 ∧ VRel ψ prot w p.2 q.2) →
    VRels ψ prot w cells cs.toList → fillA place cells ps = some out → ∃ cs', Instr.fill place cs qs = some cs' ∧ VRels ψ prot w out cs'.toList
  | [], qs, cells, out, cs, hl, _, hc, hf => by
    obtain rfl : qs = [] := List.eq_nil_of_length_eq_zero (by simpa using hl)
    simp only [fillA, Option.some.injEq] at hf
    subst hf
    exact ⟨cs, rfl, hc⟩
  | (i, v) :: ps, [], _, _, _, hl, _, _, _ => by cases hl
  | (i, v) :: ps, (i', u) :: qs, cells, out, cs, hl, hr, hc, hf => by
    obtain ⟨h1, h2⟩ := hr 0 _ _ rfl rfl
    simp only at h1 h2
    subst h1
    simp only [fillA] at hf
    cases hp : place i with
    | none => rw [hp] at hf; cases hf
    | some os =>
      obtain ⟨off, size⟩ := os
      rw [hp] at hf
      simp only at hf
      split at hf
      · rename_i hcond
        simp only [Bool.and_eq_true, beq_iff_eq] at hcond
        obtain ⟨⟨hk, hsz⟩, hle⟩ := hcond
        have hle' := Nat.le_of_ble_eq_true hle
        have hfl := h2.flat hk
        have hul : u.cells.size = v.flat.length := by simpa using hfl.1
        have hcl : cs.size = cells.length := by simpa using hc.1
        have hseg := foldl_segment off u.cells cs (by omega)
        obtain ⟨cs', g1, g2⟩ := fill_rel ps qs _ out (u.cells.zipIdx.foldl (fun cs (x : Value × Nat) => cs.setIfInBounds (off + x.2) x.1) cs) (by simpa using hl) (fun j p q hp hq => hr (j + 1) p q hp hq) (by
          rw [hseg, hul]
          exact ((hc.take off).append hfl).append (hc.drop _)) hf
        refine ⟨cs', ?_, g2⟩
        simp only [Instr.fill, hp]
        rw [if_neg (by simp; omega)]
        exact g1
      · cases hf

section
variable {P : Program} {k : Nat} {st : St} {o : Oper}
/-- The places of a struct's fields, as the model reckons them. -/
def placesOf (P : Program) (fs : Array Field) : Option (List (Nat × Nat)) := fs.toList.mapM fun f => (P.info? f.type).map fun i => (f.offset, i.size)
inductive PartsOf (st : St) : List (Nat × Operand) → List (Nat × AVal) → Prop where
  | nil : PartsOf st [] []
  | cons {i : Nat} {x : Operand} {v : AVal} {ps : List (Nat × Operand)} {vs : List (Nat × AVal)} (h : st.aop x = v) (t : PartsOf st ps vs) : PartsOf st ((i, x) :: ps) ((i, v) :: vs)
theorem PartsOf.spec : ∀ {ps : List (Nat × Operand)} {vs : List (Nat × AVal)}, PartsOf st ps vs → ps.map (fun x => (x.1, st.aop x.2)) = vs := by
  intro ps vs h
  induction h with
  | nil => rfl
  | cons h _ ih => simp [ih, h]
theorem opok_build {t : TypeId} {parts : Array (Nat × Operand)} {fs : Array Field} {pl : List (Nat × Nat)} {z : Value} {vs : List (Nat × AVal)} {out : List AVal} (ho : o.op = .build t parts) (hu : P.underlying t = some (.struct fs)) (hpl : placesOf P fs = some pl) (hz : (P.info? t).bind (·.zero) = some z)
    (hp : PartsOf st parts.toList vs) (hf : fillA (pl.toArray[·]?) (AVal.val z).flat vs = some out) : OpOk P k st o ⟨.agg out, [], [], []⟩ :=
  opok_quiet fun ψ prot obj w ρ _ hr _ => by
    have hvs := hp.spec
    cases hi : P.info? t with
    | none => rw [hi] at hz; cases hz
    | some i =>
      have hz' : i.zero = some z := by rw [hi] at hz; exact hz
      obtain ⟨cs', g1, g2⟩ := fill_rel (ψ := ψ) (prot := prot) (w := w) vs (parts.toList.map fun x => (x.1, ρ x.2)) _ out z.cells (by simp [← hvs]) (fun j p q h1 h2 => by
        rw [← hvs] at h1
        simp only [List.getElem?_map] at h1 h2
        cases hq : parts.toList[j]? with
        | none => rw [hq] at h1; cases h1
        | some y =>
          rw [hq] at h1 h2
          simp only [Option.map_some, Option.some.injEq] at h1 h2
          subst h1; subst h2
          exact ⟨rfl, hr y.2 (by simp only [ho, Op.operands]; simp; exact ⟨y.1, by simpa using List.mem_of_getElem? hq⟩)⟩) (VRel.flat (.val z) rfl) hf
      have hb : P.built t (parts.map fun (i, x) => (i, ρ x)).toList = some cs' := by
        unfold placesOf at hpl
        simp only [Program.built, hi, hu, hz', hpl, Array.toList_map]
        exact g1
      refine ⟨.agg cs', ?_, VRels.agg g2⟩
      simp only [execOp, ho, Sem.run_bind, Sem.run_pure]
      rw [run_build w t _ cs' hb]
      rfl
theorem opok_nilCheck {x : Operand} {n kk off : Nat} (ho : o.op = .nilCheck x) (hx : st.aop x = .ptr n kk off) : OpOk P k st o ⟨.ptr n kk off, [], [], []⟩ :=
  opok_quiet fun ψ prot obj w ρ _ hr _ => by
    have h1 := hx ▸ hr x (by simp [ho, Op.operands])
    obtain ⟨b, cap, hv, h⟩ := h1.ptr_inv
    exact ⟨ρ x, by simp [execOp, ho, hv, pure], h1⟩
theorem opok_nilCheckR {x : Operand} {cs : List AVal} (ho : o.op = .nilCheck x) (hx : st.aop x = .rref cs) : OpOk P k st o ⟨.rref cs, [], [], []⟩ :=
  opok_quiet fun ψ prot obj w ρ _ hr _ => by
    have h1 := hx ▸ hr x (by simp [ho, Op.operands])
    obtain ⟨vs, b, off, hv, _⟩ := h1.rref_inv
    exact ⟨ρ x, by simp [execOp, ho, hv, pure], h1⟩
/-- An element of a row of the call's own. -/
theorem opok_elem {t t' : TypeId} {p : Operand} {n kk off sz : Nat} {es : List AVal} {y : AVal} (i : Nat) (ho : o.op = .load t p) (hp : st.aop p = .ptr n kk off) (hn : st.obj n = some (kk, .row t' sz es)) (ht : plainType P t = true) (hoff : off = i * sz) (hw : widths sz es = true) (h1 : sz = 1) (hy : es[i]? = some y) (hf : y.flat = [y]) : OpOk P k st o ⟨y, [], [n], []⟩ := by
  refine opok_load ho hp hn ht ?_
  obtain ⟨f1, f2⟩ := flat_at (widths_spec hw) i y hy
  show (es.flatMap AVal.flat)[off]? = some y
  subst h1
  rw [hf] at f1
  rw [hoff]
  have := congrArg (fun l => l[0]?) f1
  simpa using this
theorem opok_elemA {t t' : TypeId} {p : Operand} {n kk off sz : Nat} {es : List AVal} {y : AVal} (i : Nat) (ho : o.op = .load t p) (hp : st.aop p = .ptr n kk off) (hn : st.obj n = some (kk, .row t' sz es)) (ht : aggType P t = true) (hs : sizeIs P t sz) (hoff : off = i * sz) (hw : widths sz es = true) (hy : es[i]? = some y) : OpOk P k st o ⟨.agg y.flat, [], [n], []⟩ := by
  obtain ⟨f1, f2⟩ := flat_at (widths_spec hw) i y hy
  exact opok_loadA ho hp hn ht hs (by rw [hoff]; exact f1) (by have := widths_spec hw y (List.mem_of_getElem? hy); exact this)
/-- Bytes as a text. -/
inductive BytesIs (st : St) : AVal → List Nat → List Int → Prop where
  | nil : BytesIs st (.val (.slice none 0 0)) [] []
  | ro (xs : List Int) : BytesIs st (.ro (ints .u8 xs)) [] xs
  | own (n kk : Nat) (t : TypeId) (sz : Nat) (xs : List Int) (len : Nat) (hn : st.obj n = some (kk, .row t sz (ints .u8 xs))) (hl : len = xs.length) : BytesIs st (.own n kk len) [n] xs
theorem opok_text {s t e : TypeId} {x : Operand} {xv : AVal} {tl : List Nat} {xs : List Int} (ho : o.op = .convert s t x) (hx : st.aop x = xv) (hs : P.underlying s = some (.slice e)) (he : P.underlying e = some (.int .u8)) (ht : P.underlying t = some .string) (hb : BytesIs st xv tl xs) : OpOk P k st o ⟨.val (.string (strOfNums xs)), [], tl, []⟩ :=
  opok_quiet fun ψ prot obj w ρ hob hr r => by
    have e2 := hx ▸ hr x (by simp [ho, Op.operands])
    obtain ⟨A, n, c, hv, hl, hlies⟩ : ∃ A n c, ρ x = .slice A n c ∧ xs.length = n ∧ Lies w.heap.size A (xs.map (Value.int .u8)) w := by
      have lies : ∀ (A : Option Addr) (vs : List Value), VRels ψ prot w (ints .u8 xs) vs → (∀ j u, vs[j]? = some u → ∃ ad : Addr, A = some ad ∧ ad.block < w.heap.size ∧ w.cell? (ad.add j) = some u) → Lies w.heap.size A (xs.map (Value.int .u8)) w := fun A vs h1 h2 j hj => by
        have hjl : j < xs.length := by simpa using hj
        have hjv : j < vs.length := by rw [h1.1]; simpa using hjl
        have q1 : vs[j]? = some vs[j] := List.getElem?_eq_getElem hjv
        have q2 := (h1.2 j (.val (.int .u8 xs[j])) vs[j] (by rw [ints_get]; simp [hjl]) q1).val_eq
        obtain ⟨ad, q3, q4, q5⟩ := h2 j _ q1
        exact ⟨ad, vs[j], q3, q4, by rw [q2]; simp [hjl], q5⟩
      cases hb with
      | nil => exact ⟨none, 0, 0, e2.val_eq, rfl, fun j hj => by simp at hj⟩
      | ro =>
        rcases e2.ro_inv with ⟨h0, a0, c0, hv, _⟩ | ⟨vs, b, off, cap, hv, hp, h4, h5, _⟩
        · obtain rfl : xs = [] := by cases xs with | nil => rfl | cons x xs => cases h0
          exact ⟨a0, 0, c0, hv, rfl, fun j hj => by simp at hj⟩
        · rw [flat_ints] at h4
          exact ⟨_, _, cap, hv, by simp, lies _ vs h4 fun j u hj => ⟨_, rfl, (r.pr b hp).1, by rw [addr_add0]; exact h5 j u hj⟩⟩
      | own n kk t sz xs len hn hl =>
        obtain ⟨loc, hv, hψ⟩ := e2.own_inv
        obtain ⟨loc', g1, g2⟩ := r.live n kk _ ((hob n (by simp)).trans hn)
        rw [hψ] at g1; injection g1 with g1; subst g1
        have hins := g2.inside
        obtain ⟨ys, g3, g4, _⟩ := loc_of_own g2
        rw [flat_ints] at g3
        refine ⟨_, len, loc.cap, hv, hl.symm, lies _ ys g3 fun j u hj => ?_⟩
        obtain ⟨ad, q1, q2⟩ := g4 j u hj
        refine ⟨ad, q1, ?_, q2⟩
        cases hbb : loc.block with
        | none => rw [hbb] at q1; cases q1
        | some b => rw [hbb] at q1; simp at q1; rw [← q1]; exact hins b hbb
    have := conv_bytes (P := P) (c := c) hs he ht hlies hl
    exact ⟨_, by simp only [execOp, ho, hv, this, Sem.run_bind, Sem.run_pure, Result.andThen_ok], .val _⟩
omit st o in
theorem aggType_spec {t : TypeId} (h : aggType P t = true) : (∃ fs, P.underlying t = some (.struct fs)) ∨ ∃ n e, P.underlying t = some (.array n e) := by
  unfold aggType at h
  split at h
  · exact .inl ⟨_, by assumption⟩
  · exact .inr ⟨_, _, by assumption⟩
  · cases h
theorem opok_len {x : Operand} {t : TypeId} {es : List AVal} {e : TypeId} {m : Nat} (ho : o.op = .call { callee := .builtin .len, args := #[x], argTypes := #[t] }) (hx : st.aop x = .ro es) (ht : P.underlying t = some (.slice e)) (hm : es.length = m) : OpOk P k st o ⟨.val (.int .i64 m), [], [], []⟩ := by
  subst hm; exact opok_len_ro ho hx ht
/-- A result that lies in a cell, a whole struct. -/
theorem res_cell {fn : Func} {a : Nat} {t : TypeId} {n kk : Nat} {bt : TypeId} {cs : List AVal} (hr : fn.results = #[.cell a t]) (ha : st.get a = .ptr n kk 0) (hn : st.obj n = some (kk, .box bt cs)) (ht : aggType P t = true) (hs : sizeIs P t cs.length) : ResOk P fn st (.agg cs) := fun ψ prot w tmps r h => by
  have h1 := h a
  rw [ha] at h1
  obtain ⟨b, cap, hv, h2⟩ := h1.ptr_inv
  obtain ⟨loc, h3, h4⟩ := r.live n kk _ hn
  rw [h2] at h3; injection h3 with h3; subst h3
  obtain ⟨b', vs, h0, hh, h5⟩ := h4
  injection h0 with h0; subst h0
  have hsz : (P.info? t).map (·.size) = some vs.toArray.size := by have := hs; unfold sizeIs at this; rw [this]; simp [h5.1]
  rcases aggType_spec ht with ⟨fs, hu⟩ | ⟨m, e, hu⟩
  · exact ⟨.agg vs.toArray, results_cell_row hr _ w b bt vs.toArray (0, 0) _ hv hh hu rfl hsz, VRels.agg (by simpa using h5)⟩
  · exact ⟨.agg vs.toArray, results_cell_row hr _ w b bt vs.toArray (0, 0) _ hv hh hu rfl hsz, VRels.agg (by simpa using h5)⟩
/-- An object that was made is handed back by its address. -/
theorem ends_ptr {fn : Func} {a n kk : Nat} {o' ob : AObj} {objs' : Writes} (hr : fn.results = #[.tmp a]) (ha : st.get a = .ptr n kk 0) (hobj : st.obj n = some (kk, ob)) (hout : (objs'.filter fun x => x.2.isSome) = [(1000, some (0, o'))]) (ho : ob = o') (hp : o'.pure = true) (hn : nodupB (objs'.map (·.1)) = true) {e : Exit} (he : e = .ret ∨ e = .normal) :
    Ends P fn (.ptr 1000 0 0) objs' e st := by
  subst ho
  exact ends [(1000, n, kk, ob)] (res_one hr ha) (.one (.ptr _ _ _ _ _ List.mem_cons_self)) (fun x h => by simp at h; subst h; exact hobj) hout hn rfl (fun x h => by simp at h; subst h; exact hp) rfl he
/-- The object behind the first argument is handed back, and a value. -/
theorem ends_with {fn : Func} {v0 v : AVal} {o' ob : AObj} {objs' : Writes} (hres : ResOk P fn st v0) (hv : v0 = v) (hpv : v.pure = true) (hobj : st.obj 0 = some (0, ob)) (hout : (objs'.filter fun x => x.2.isSome) = [(0, some (0, o'))]) (ho : ob = o') (hp : o'.pure = true) (hn : nodupB (objs'.map (·.1)) = true) {e : Exit} (he : e = .ret ∨ e = .normal) :
    Ends P fn v objs' e st := by
  subst ho; subst hv
  exact ends [(0, 0, 0, ob)] hres (.one (.pure _ hpv)) (fun x h => by simp at h; subst h; exact hobj) hout hn rfl (fun x h => by simp at h; subst h; exact hp) rfl he
end
end Go.Proofs.Ytojapodjlpffdaa
