/-
  Operations that look at memory, or write it, by states. No program is named here.
-/
import Derived.Test.YtojapodjlpffdaaAbsOps
namespace Go.Proofs.Ytojapodjlpffdaa
open Go.RowKit

def AVal.known : AVal → Bool
  | .any => false
  | _ => true
def AVal.one : AVal → Bool
  | .any => false
  | .val (.agg _) => false
  | .val (.tuple _) => false
  | .agg _ => false
  | .tuple _ => false
  | _ => true
section
variable {ψ : Ghost} {prot : Nat → Prop} {w : World}
theorem VRel.flat {x : AVal} {v : Value} (h : VRel ψ prot w x v) (hk : x.known = true) : VRels ψ prot w x.flat v.cells.toList := by
  cases h with
  | any v => cases hk
  | val v =>
    cases v
    case agg cs =>
      refine ⟨by simp [AVal.flat, Value.cells], fun i y u h1 h2 => ?_⟩
      simp only [AVal.flat, List.getElem?_map, Value.cells] at h1 h2
      rw [h2] at h1
      simp only [Option.map_some, Option.some.injEq] at h1
      subst h1
      exact .val u
    all_goals exact ⟨rfl, fun i y u h1 h2 => by
      cases i with
      | zero => simp [AVal.flat, Value.cells] at h1 h2; subst h1; subst h2; exact .val _
      | succ i => simp [AVal.flat] at h1⟩
  | agg cs vs hl hv => exact ⟨by simp [AVal.flat, Value.cells, hl], fun i y u h1 h2 => hv i y u h1 (by simpa [Value.cells] using h2)⟩
  | roNil a cap h => exact ⟨rfl, fun i y u h1 h2 => by
      cases i with
      | zero => simp [AVal.flat, Value.cells] at h1 h2; subst h1; subst h2; exact .roNil a cap h
      | succ i => simp [AVal.flat] at h1⟩
  | ro es vs b o cap hcp hp hl hc hv => exact ⟨rfl, fun i y u h1 h2 => by
      cases i with
      | zero => simp [AVal.flat, Value.cells] at h1 h2; subst h1; subst h2; exact .ro es vs b o cap hcp hp hl hc hv
      | succ i => simp [AVal.flat] at h1⟩
  | own n k len loc h => exact ⟨rfl, fun i y u h1 h2 => by
      cases i with
      | zero => simp [AVal.flat, Value.cells] at h1 h2; subst h1; subst h2; exact .own n k len loc h
      | succ i => simp [AVal.flat] at h1⟩
  | ptr n k off b cap h => exact ⟨rfl, fun i y u h1 h2 => by
      cases i with
      | zero => simp [AVal.flat, Value.cells] at h1 h2; subst h1; subst h2; exact .ptr n k off b cap h
      | succ i => simp [AVal.flat] at h1⟩
  | rref cs vs b o hp hl hc hv => exact ⟨rfl, fun i y u h1 h2 => by
      cases i with
      | zero => simp [AVal.flat, Value.cells] at h1 h2; subst h1; subst h2; exact .rref cs vs b o hp hl hc hv
      | succ i => simp [AVal.flat] at h1⟩
  | tuple cs vs hl hv => exact ⟨rfl, fun i y u h1 h2 => by
      cases i with
      | zero => simp [AVal.flat, Value.cells] at h1 h2; subst h1; subst h2; exact .tuple cs vs hl hv
      | succ i => simp [AVal.flat] at h1⟩
  | fn f cs vs hl hv => exact ⟨rfl, fun i y u h1 h2 => by
      cases i with
      | zero => simp [AVal.flat, Value.cells] at h1 h2; subst h1; subst h2; exact .fn f cs vs hl hv
      | succ i => simp [AVal.flat] at h1⟩
theorem VRel.one {x : AVal} {v : Value} (h : VRel ψ prot w x v) (hk : x.one = true) : v.oneCell' = true := by
  cases h
  case val => cases v <;> first | rfl | (cases hk; done)
  all_goals first | rfl | (cases hk; done)
theorem VRels.one {xs : List AVal} {vs : List Value} (h : VRels ψ prot w xs vs) (hk : ∀ x ∈ xs, x.one = true) : ∀ v ∈ vs, v.oneCell' = true := fun v hv => by
  obtain ⟨i, hi⟩ := List.mem_iff_getElem?.1 hv
  have hlt : i < xs.length := by rw [← h.1]; exact (List.getElem?_eq_some_iff.1 hi).1
  have hx : xs[i]? = some xs[i] := List.getElem?_eq_getElem hlt
  exact (h.2 i _ v hx hi).one (hk _ (List.getElem_mem hlt))
theorem VRels.append {xs ys : List AVal} {us vs : List Value} (h : VRels ψ prot w xs us) (g : VRels ψ prot w ys vs) : VRels ψ prot w (xs ++ ys) (us ++ vs) :=
  ⟨by simp [h.1, g.1], fun i x v h1 h2 => by
    by_cases hi : i < xs.length
    · rw [List.getElem?_append_left hi] at h1
      rw [List.getElem?_append_left (by rw [h.1]; exact hi)] at h2
      exact h.2 i x v h1 h2
    · rw [List.getElem?_append_right (by omega)] at h1
      rw [List.getElem?_append_right (by rw [h.1]; omega), h.1] at h2
      exact g.2 _ x v h1 h2⟩
theorem VRels.take {xs : List AVal} {vs : List Value} (h : VRels ψ prot w xs vs) (m : Nat) : VRels ψ prot w (xs.take m) (vs.take m) :=
  ⟨by simp [h.1], fun i x v h1 h2 => by
    rw [List.getElem?_take] at h1 h2
    split at h1
    · rename_i hi; rw [if_pos hi] at h2; exact h.2 i x v h1 h2
    · cases h1⟩
theorem VRels.drop {xs : List AVal} {vs : List Value} (h : VRels ψ prot w xs vs) (m : Nat) : VRels ψ prot w (xs.drop m) (vs.drop m) :=
  ⟨by simp [h.1], fun i x v h1 h2 => by
    rw [List.getElem?_drop] at h1 h2
    exact h.2 _ x v h1 h2⟩
theorem VRels.agg {xs : List AVal} {vs : Array Value} (h : VRels ψ prot w xs vs.toList) : VRel ψ prot w (.agg xs) (.agg vs) := .agg xs vs (by simpa using h.1) fun i x v h1 h2 => h.2 i x v h1 (by simpa using h2)
theorem VRel.aggs {xs : List AVal} {v : Value} (h : VRel ψ prot w (.agg xs) v) : ∃ vs : Array Value, v = .agg vs ∧ VRels ψ prot w xs vs.toList := by
  cases h with
  | agg _ vs hl hv => exact ⟨vs, rfl, by simpa using hl, fun i x v h1 h2 => hv i x v h1 (by simpa using h2)⟩
theorem VRels.vals {vs : List Value} : VRels ψ prot w (vs.map .val) vs := ⟨by simp, fun i x v h1 h2 => by
  simp only [List.getElem?_map, h2, Option.map_some, Option.some.injEq] at h1
  subst h1; exact .val v⟩

theorem VRel.rref_inv {cs : List AVal} {v : Value} (h : VRel ψ prot w (.rref cs) v) : ∃ (vs : List Value) (b o : Nat), v = .pointer (some ⟨b, o, none⟩) ∧ prot b ∧ VRels ψ prot w cs vs ∧ ∀ (i : Nat) (u : Value), vs[i]? = some u → w.cell? ⟨b, o + i, none⟩ = some u := by
  cases h with
  | rref _ vs b o hp hl hc hv => exact ⟨vs, b, o, rfl, hp, ⟨hl, hv⟩, hc⟩
theorem VRel.ptr_inv {n k off : Nat} {v : Value} (h : VRel ψ prot w (.ptr n k off) v) : ∃ b cap, v = .pointer (some ⟨b, off, none⟩) ∧ ψ n k = some ⟨some b, cap⟩ := by
  cases h with
  | ptr _ _ _ b cap h => exact ⟨b, cap, rfl, h⟩
theorem VRel.own_inv {n k len : Nat} {v : Value} (h : VRel ψ prot w (.own n k len) v) : ∃ loc, v = .slice (loc.block.map fun b => ⟨b, 0, none⟩) len loc.cap ∧ ψ n k = some loc := by
  cases h with
  | own _ _ _ loc h => exact ⟨loc, rfl, h⟩
theorem VRel.ro_inv {es : List AVal} {v : Value} (h : VRel ψ prot w (.ro es) v) : (es = [] ∧ ∃ a cap, v = .slice a 0 cap ∧ (a = none → cap = 0)) ∨ ∃ (vs : List Value) (b o cap : Nat), v = .slice (some ⟨b, o, none⟩) es.length cap ∧ prot b ∧ VRels ψ prot w (es.flatMap AVal.flat) vs ∧ (∀ (i : Nat) (u : Value), vs[i]? = some u → w.cell? ⟨b, o + i, none⟩ = some u) ∧ es.length ≤ cap := by
  cases h with
  | roNil a cap h => exact .inl ⟨rfl, a, cap, rfl, h⟩
  | ro _ vs b o cap hcp hp hl hc hv => exact .inr ⟨vs, b, o, cap, rfl, hp, ⟨hl, hv⟩, hc, hcp⟩

/-- The cells of an object. -/
def AObj.cells : AObj → List AVal
  | .row _ _ es => es.flatMap AVal.flat
  | .box _ cs => cs
theorem addr_add0 (b i j : Nat) : (⟨b, i, none⟩ : Addr).add j = ⟨b, i + j, none⟩ := by unfold Addr.add; split <;> simp_all
theorem ORel.cell {loc : Loc} {ob : AObj} (h : ORel ψ prot w loc ob) {b : Nat} (hb : loc.block = some b) : ∃ vs : List Value, VRels ψ prot w ob.cells vs ∧ ∀ (i : Nat) (v : Value), vs[i]? = some v → w.cell? ⟨b, i, none⟩ = some v := by
  cases ob with
  | row t sz es =>
    obtain ⟨xs, h1, h2⟩ := h
    refine ⟨xs, h2, fun i v hi => ?_⟩
    have := h1.cells (g := b) (by rw [hb]; rfl) i v hi
    rwa [addr_add0, Nat.zero_add] at this
  | box t cs =>
    obtain ⟨b', vs, h0, h1, h2⟩ := h
    rw [hb] at h0; injection h0 with h0; subst h0
    exact ⟨vs, h2, fun i v hi => by rw [cell_of_row w b i vs.toArray t (0, 0) h1]; simpa using hi⟩
end

def plainType (P : Program) (t : TypeId) : Bool := match P.underlying t with | some (.struct _) => false | some (.array _ _) => false | some _ => true | none => false
def aggType (P : Program) (t : TypeId) : Bool := match P.underlying t with | some (.struct _) => true | some (.array _ _) => true | _ => false
theorem run_isAgg {P : Program} {t : TypeId} (w : World) : (plainType P t = true → (isAgg t).run P w = .ok false w) ∧ (aggType P t = true → (isAgg t).run P w = .ok true w) := by
  constructor
  · intro h
    unfold plainType at h
    cases hu : P.underlying t with
    | none => rw [hu] at h; cases h
    | some d =>
      rw [hu] at h
      cases d <;> first | (cases h; done) | simp [isAgg, run_underlying hu]
  · intro h
    unfold aggType at h
    cases hu : P.underlying t with
    | none => rw [hu] at h; cases h
    | some d =>
      rw [hu] at h
      cases d <;> first | (cases h; done) | simp [isAgg, run_underlying hu]
theorem run_newObj_ {P : Program} (ob : Obj) (w : World) : (newObj ob).run P w = .ok w.heap.size (w.alloc ob) := rfl
theorem run_typeInfo_ {P : Program} {t : TypeId} {i : TypeInfo} (hi : P.info? t = some i) (w : World) : (typeInfo t).run P w = .ok i w := by
  show (match P.info? t with | some i => pure i | none => stuck "no such type" : Sem TypeInfo).run P w = _
  rw [hi]; rfl
def sizeIs (P : Program) (t : TypeId) (m : Nat) : Prop := (P.info? t).map (·.size) = some m
theorem run_sizeIs {P : Program} {t : TypeId} {m : Nat} (h : sizeIs P t m) (w : World) : (sizeOf t).run P w = .ok m w := by
  unfold sizeIs at h
  cases hi : P.info? t with
  | none => rw [hi] at h; cases h
  | some i => rw [hi] at h; simp at h; simp only [sizeOf, run_typeInfo_ hi, h, Sem.run_bind, Sem.run_pure, Result.andThen_ok]
theorem run_loadVar1 {P : Program} {t : TypeId} {w : World} {a : Addr} {v : Value} (ht : plainType P t = true) (h : w.cell? a = some v) : (loadVar t a).run P w = .ok v w := by
  simp only [loadVar, (run_isAgg (P := P) w).1 ht, load, Sem.run, h, Sem.run_bind, Result.andThen_ok, if_false, Bool.false_eq_true]
theorem run_loadVarA {P : Program} {t : TypeId} {w : World} {b o : Nat} {vs : List Value} (ht : aggType P t = true) (hs : sizeIs P t vs.length) (h : ∀ (i : Nat) (v : Value), vs[i]? = some v → w.cell? ⟨b, o + i, none⟩ = some v) :
    (loadVar t ⟨b, o, none⟩).run P w = .ok (.agg vs.toArray) w := by
  have := run_loadCells_list (P := P) w ⟨b, o, none⟩ vs (fun j v hv => by rw [addr_add0]; exact h j v hv)
  simp only [loadVar, (run_isAgg (P := P) w).2 ht, run_sizeIs hs, this, Sem.run_bind, Sem.run_pure, Result.andThen_ok, if_true]

section
variable {P : Program} {k : Nat} {st : St} {o : Oper}
theorem opok_new {v : AVal} {d : Nat} {ob : AObj} (h : ∀ (ψ : Ghost) (prot : Nat → Prop) (w : World) (ρ : Operand → Value), (∀ x ∈ o.op.operands, VRel ψ prot w (st.aop x) (ρ x)) → ∃ cv ob' cap, (execOp ρ o).run P w = .ok (.value cv) (w.alloc ob') ∧
      (∀ ψ' : Ghost, (∀ n j l, ψ n j = some l → ψ' n j = some l) → (∀ b, prot b → b < w.heap.size) → ORel ψ' prot (w.alloc ob') ⟨some w.heap.size, cap⟩ ob) ∧ ∀ ψ' : Ghost, ψ' d k = some ⟨some w.heap.size, cap⟩ → VRel ψ' prot (w.alloc ob') v cv) :
    OpOk P k st o ⟨v, [(d, some (k, ob))], [d], [d]⟩ := by
  refine ⟨fun n hn => by simpa [Writes.names] using hn, fun ψ prot obj w ρ _ hx r hf => ?_⟩
  obtain ⟨cv, ob', cap, h1, h2, h3⟩ := h ψ prot w ρ hx
  rw [h1]
  obtain ⟨ψ', g1, g2, g3, g4, g5⟩ := evolve_make (w' := w.alloc ob') r [] d k ⟨some w.heap.size, cap⟩ ob (hf d (by simp)) rfl rfl rfl (by simp) (fun b hb _ => Below.heap_alloc w ob' b hb) (fun b hb => by injection hb with hb; exact .inl (by omega)) (fun ψ' hψ' => h2 ψ' hψ' fun b hb => (r.pr b hb).1)
  exact ⟨ψ', prot, g1, g2, h3 ψ' g3, fun n j hne => (g5 n j hne).imp id fun ⟨e1, e2⟩ => ⟨e1, by simp [e2]⟩⟩
theorem keep_alloc {prot : Nat → Prop} {w : World} (ob' : Obj) (hp : ∀ b, prot b → b < w.heap.size) : ∀ b, prot b → prot b ∧ (w.alloc ob').heap[b]? = w.heap[b]? := fun b hb => ⟨hb, Below.heap_alloc w ob' b (hp b hb)⟩
theorem opok_box {t : TypeId} {x : Operand} (d : Nat) {v : AVal} {cs : List AVal} (ho : o.op = .box t x) (hx : st.aop x = v) (hk : v.known = true) (hcs : v.flat = cs) : OpOk P k st o ⟨.ptr d k 0, [(d, some (k, .box t cs))], [d], [d]⟩ :=
  opok_new fun ψ prot w ρ hr => by
    have h1 := hx ▸ hr x (by simp [ho, Op.operands])
    have h2 := h1.flat hk
    rw [hcs] at h2
    refine ⟨.pointer (some ⟨w.heap.size, 0, none⟩), .cells (ρ x).cells t (0, 0), 0, by simp only [execOp, ho, Instr.box, newVar, newRow, Sem.run_bind, Sem.run_pure, Result.andThen_ok, run_newObj_], fun ψ' hψ hp => ⟨w.heap.size, (ρ x).cells.toList, rfl, ?_, ?_⟩, fun ψ' h => .ptr d k 0 _ _ h⟩
    · simpa using heap_alloc_new w (.cells (ρ x).cells t (0, 0))
    · exact h2.mono hψ (keep_alloc _ hp)
theorem opok_alloc {t : TypeId} (d : Nat) {z : Value} {cs : List AVal} (ho : o.op = .alloc t) (hz : (P.info? t).bind (·.zero) = some z) (hcs : (AVal.val z).flat = cs) : OpOk P k st o ⟨.ptr d k 0, [(d, some (k, .box t cs))], [d], [d]⟩ :=
  opok_new fun ψ prot w ρ hr => by
    cases hi : P.info? t with
    | none => rw [hi] at hz; cases hz
    | some i =>
      rw [hi] at hz
      have hz' : i.zero = some z := hz
      have h2 : VRels ψ prot w cs z.cells.toList := hcs ▸ VRel.flat (x := .val z) (.val z) rfl
      refine ⟨.pointer (some ⟨w.heap.size, 0, none⟩), .cells z.cells t (0, 0), 0, by simp only [execOp, ho, Instr.alloc, zeroValue, run_typeInfo_ hi, hz', newVar, newRow, Sem.run_bind, Sem.run_pure, Result.andThen_ok, run_newObj_], fun ψ' hψ hp => ⟨w.heap.size, z.cells.toList, rfl, ?_, ?_⟩, fun ψ' h => .ptr d k 0 _ _ h⟩
      · simpa using heap_alloc_new w (.cells z.cells t (0, 0))
      · exact h2.mono hψ (keep_alloc _ hp)
theorem opok_load {t : TypeId} {p : Operand} {n kk off : Nat} {ob : AObj} {x : AVal} (ho : o.op = .load t p) (hp : st.aop p = .ptr n kk off) (hn : st.obj n = some (kk, ob)) (ht : plainType P t = true) (hc : ob.cells[off]? = some x) : OpOk P k st o ⟨x, [], [n], []⟩ :=
  opok_quiet fun ψ prot obj w ρ hob hr r => by
    have h1 := hp ▸ hr p (by simp [ho, Op.operands])
    obtain ⟨loc, h2, h3⟩ := r.live n kk ob ((hob n (by simp)).trans hn)
    obtain ⟨b, cap, hpv, h⟩ := h1.ptr_inv
    rw [h2] at h; injection h with h; subst h
    obtain ⟨vs, h4, h5⟩ := h3.cell rfl
    have hlt : off < vs.length := by rw [h4.1]; exact (List.getElem?_eq_some_iff.1 hc).1
    have hv : vs[off]? = some vs[off] := List.getElem?_eq_getElem hlt
    exact ⟨vs[off], by simp only [execOp, ho, hpv, Instr.loadAt, Instr.sureAddr, run_loadVar1 ht (h5 off _ hv), Sem.run_bind, Sem.run_pure, Result.andThen_ok], h4.2 off x _ hc hv⟩
theorem opok_loadA {t : TypeId} {p : Operand} {n kk off m : Nat} {ob : AObj} {xs : List AVal} (ho : o.op = .load t p) (hp : st.aop p = .ptr n kk off) (hn : st.obj n = some (kk, ob)) (ht : aggType P t = true) (hs : sizeIs P t m)
    (hc : (ob.cells.drop off).take m = xs) (hl : xs.length = m) : OpOk P k st o ⟨.agg xs, [], [n], []⟩ :=
  opok_quiet fun ψ prot obj w ρ hob hr r => by
    have h1 := hp ▸ hr p (by simp [ho, Op.operands])
    obtain ⟨loc, h2, h3⟩ := r.live n kk ob ((hob n (by simp)).trans hn)
    obtain ⟨b, cap, hpv, h⟩ := h1.ptr_inv
    rw [h2] at h; injection h with h; subst h
    obtain ⟨vs, h4, h5⟩ := h3.cell rfl
    have h6 := (h4.drop off).take m
    rw [hc] at h6
    have h7 := run_loadVarA (P := P) (t := t) (w := w) (b := b) (o := off) (vs := (vs.drop off).take m) ht (by rw [h6.1, hl]; exact hs) (fun i v hi => by
      rw [List.getElem?_take] at hi
      split at hi
      · rw [List.getElem?_drop] at hi; exact h5 _ v hi
      · cases hi)
    exact ⟨.agg ((vs.drop off).take m).toArray, by simp only [execOp, ho, hpv, Instr.loadAt, Instr.sureAddr, Sem.run_bind, Sem.run_pure, Result.andThen_ok, h7], VRels.agg (by simpa using h6)⟩
theorem opok_loadR {t : TypeId} {p : Operand} {cs : List AVal} {x : AVal} (ho : o.op = .load t p) (hp : st.aop p = .rref cs) (ht : plainType P t = true) (hc : cs[0]? = some x) : OpOk P k st o ⟨x, [], [], []⟩ :=
  opok_quiet fun ψ prot obj w ρ hob hr r => by
    have h1 := hp ▸ hr p (by simp [ho, Op.operands])
    obtain ⟨vs, b, off, hpv, hpr, ⟨hl, hv⟩, hcc⟩ := h1.rref_inv
    have hlt : 0 < vs.length := by rw [hl]; exact (List.getElem?_eq_some_iff.1 hc).1
    have hv0 : vs[0]? = some vs[0] := List.getElem?_eq_getElem hlt
    exact ⟨vs[0], by simp only [execOp, ho, hpv, Instr.loadAt, Instr.sureAddr, run_loadVar1 ht (show w.cell? ⟨b, off, none⟩ = some vs[0] from by have := hcc 0 _ hv0; rwa [Nat.add_zero] at this), Sem.run_bind, Sem.run_pure, Result.andThen_ok], hv 0 x _ hc hv0⟩
theorem opok_loadRA {t : TypeId} {p : Operand} {cs : List AVal} (ho : o.op = .load t p) (hp : st.aop p = .rref cs) (ht : aggType P t = true) (hs : sizeIs P t cs.length) : OpOk P k st o ⟨.agg cs, [], [], []⟩ :=
  opok_quiet fun ψ prot obj w ρ hob hr r => by
    have h1 := hp ▸ hr p (by simp [ho, Op.operands])
    obtain ⟨vs, b, off, hpv, hpr, ⟨hl, hv⟩, hcc⟩ := h1.rref_inv
    have h7 := run_loadVarA (P := P) (t := t) (w := w) (b := b) (o := off) (vs := vs) ht (by rw [hl]; exact hs) hcc
    exact ⟨.agg vs.toArray, by simp only [execOp, ho, hpv, Instr.loadAt, Instr.sureAddr, Sem.run_bind, Sem.run_pure, Result.andThen_ok, h7], VRels.agg (by simpa using ⟨hl, hv⟩)⟩
theorem opok_fieldAddr {s : TypeId} {p : Operand} {f n kk off m : Nat} {fs : Array Field} {fd : Field} (ho : o.op = .fieldAddr s p f) (hp : st.aop p = .ptr n kk off) (hu : P.underlying s = some (.struct fs)) (hf : fs[f]? = some fd) (hs : sizeIs P fd.type m) (hm : m ≠ 0) :
    OpOk P k st o ⟨.ptr n kk (off + fd.offset), [], [], []⟩ :=
  opok_quiet fun ψ prot obj w ρ hob hr r => by
    have h1 := hp ▸ hr p (by simp [ho, Op.operands])
    obtain ⟨b, cap, hpv, h⟩ := h1.ptr_inv
    refine ⟨.pointer (some ⟨b, off + fd.offset, none⟩), ?_, .ptr n kk _ b cap h⟩
    simp [execOp, ho, hpv, Instr.fieldAt, run_underlying hu, hf, Instr.sureAddr, fieldPlace, run_sizeIs hs, hm, addr_add0, go_sem]
theorem opok_fieldAddrR {s : TypeId} {p : Operand} {f m : Nat} {cs : List AVal} {fs : Array Field} {fd : Field} (ho : o.op = .fieldAddr s p f) (hp : st.aop p = .rref cs) (hu : P.underlying s = some (.struct fs)) (hf : fs[f]? = some fd) (hs : sizeIs P fd.type m) (hm : m ≠ 0) :
    OpOk P k st o ⟨.rref ((cs.drop fd.offset).take m), [], [], []⟩ :=
  opok_quiet fun ψ prot obj w ρ hob hr r => by
    have h1 := hp ▸ hr p (by simp [ho, Op.operands])
    obtain ⟨vs, b, off, hpv, hpr, ⟨hl, hv⟩, hcc⟩ := h1.rref_inv
    have h6 : VRels ψ prot w ((cs.drop fd.offset).take m) ((vs.drop fd.offset).take m) := (VRels.drop ⟨hl, hv⟩ _).take m
    refine ⟨.pointer (some ⟨b, off + fd.offset, none⟩), ?_, .rref _ ((vs.drop fd.offset).take m) b _ hpr h6.1 (fun i v hi => ?_) h6.2⟩
    · simp [execOp, ho, hpv, Instr.fieldAt, run_underlying hu, hf, Instr.sureAddr, fieldPlace, run_sizeIs hs, hm, addr_add0, go_sem]
    · rw [List.getElem?_take] at hi
      split at hi
      · rw [List.getElem?_drop] at hi
        rw [Nat.add_assoc]; exact hcc _ v hi
      · cases hi
end
end Go.Proofs.Ytojapodjlpffdaa
