/-
  What a function knows at a point, said without addresses: slots hold values by their contents, memory of the call's own goes by names. A region's operations are looked at once, in the text's order; the theorem says that every order that may be drawn ends in the same state. No program is named here.
-/
import Derived.Test.YtojapodjlpffdaaUse
namespace Go.Proofs.Ytojapodjlpffdaa
open Go.RowKit

inductive AVal where
  | any
  | val (v : Value)
  | ro (es : List AVal)
  | own (n k len : Nat)
  | ptr (n k off : Nat)
  | rref (cs : List AVal)
  | agg (cs : List AVal)
  | tuple (vs : List AVal)
  | fn (f : FuncId) (caps : List AVal)
instance : Inhabited AVal := ⟨.any⟩

/-- The cells of an element. -/
def AVal.flat : AVal → List AVal
  | .agg cs => cs
  | .val (.agg cs) => cs.toList.map .val
  | v => [v]

/-- Where an object of the call's own lies: always at a block's beginning; a nil slice lies nowhere. -/
structure Loc where
  block : Option Nat
  cap : Nat
abbrev Ghost := Nat → Nat → Option Loc

inductive VRel (ψ : Ghost) (prot : Nat → Prop) (w : World) : AVal → Value → Prop where
  | any (v : Value) : VRel ψ prot w .any v
  | val (v : Value) : VRel ψ prot w (.val v) v
  | roNil (a : Option Addr) (cap : Nat) (h : a = none → cap = 0) : VRel ψ prot w (.ro []) (.slice a 0 cap)
  | ro (es : List AVal) (vs : List Value) (b o cap : Nat) (hcp : es.length ≤ cap) (hp : prot b) (hl : vs.length = (es.flatMap AVal.flat).length) (hc : ∀ (i : Nat) (v : Value), vs[i]? = some v → w.cell? ⟨b, o + i, none⟩ = some v)
      (hv : ∀ (i : Nat) (x : AVal) (v : Value), (es.flatMap AVal.flat)[i]? = some x → vs[i]? = some v → VRel ψ prot w x v) : VRel ψ prot w (.ro es) (.slice (some ⟨b, o, none⟩) es.length cap)
  | own (n k len : Nat) (loc : Loc) (h : ψ n k = some loc) : VRel ψ prot w (.own n k len) (.slice (loc.block.map fun b => ⟨b, 0, none⟩) len loc.cap)
  | ptr (n k off b cap : Nat) (h : ψ n k = some ⟨some b, cap⟩) : VRel ψ prot w (.ptr n k off) (.pointer (some ⟨b, off, none⟩))
  | rref (cs : List AVal) (vs : List Value) (b o : Nat) (hp : prot b) (hl : vs.length = cs.length) (hc : ∀ (i : Nat) (v : Value), vs[i]? = some v → w.cell? ⟨b, o + i, none⟩ = some v)
      (hv : ∀ (i : Nat) (x : AVal) (v : Value), cs[i]? = some x → vs[i]? = some v → VRel ψ prot w x v) : VRel ψ prot w (.rref cs) (.pointer (some ⟨b, o, none⟩))
  | agg (cs : List AVal) (vs : Array Value) (hl : vs.size = cs.length) (hv : ∀ (i : Nat) (x : AVal) (v : Value), cs[i]? = some x → vs[i]? = some v → VRel ψ prot w x v) : VRel ψ prot w (.agg cs) (.agg vs)
  | tuple (cs : List AVal) (vs : Array Value) (hl : vs.size = cs.length) (hv : ∀ (i : Nat) (x : AVal) (v : Value), cs[i]? = some x → vs[i]? = some v → VRel ψ prot w x v) : VRel ψ prot w (.tuple cs) (.tuple vs)
  | fn (f : FuncId) (cs : List AVal) (vs : Array Value) (hl : vs.size = cs.length) (hv : ∀ (i : Nat) (x : AVal) (v : Value), cs[i]? = some x → vs[i]? = some v → VRel ψ prot w x v) : VRel ψ prot w (.fn f cs) (.func (.func f) #[] vs)

theorem VRel.mono {ψ ψ' : Ghost} {prot prot' : Nat → Prop} {w w' : World} {x : AVal} {v : Value} (h : VRel ψ prot w x v) (hψ : ∀ n k loc, ψ n k = some loc → ψ' n k = some loc)
    (hp : ∀ b, prot b → prot' b ∧ w'.heap[b]? = w.heap[b]?) : VRel ψ' prot' w' x v := by
  induction h with
  | any v => exact .any v
  | val v => exact .val v
  | roNil a cap h => exact .roNil a cap h
  | ro es vs b o cap hcp hb hl hc _ ih => exact .ro es vs b o cap hcp (hp b hb).1 hl (fun i v h => (World.cell?_of_block (hp b hb).2).trans (hc i v h)) ih
  | own n k len loc h => exact .own n k len loc (hψ _ _ _ h)
  | ptr n k off b cap h => exact .ptr n k off b cap (hψ _ _ _ h)
  | rref cs vs b o hb hl hc _ ih => exact .rref cs vs b o (hp b hb).1 hl (fun i v h => (World.cell?_of_block (hp b hb).2).trans (hc i v h)) ih
  | agg cs vs hl _ ih => exact .agg cs vs hl ih
  | tuple cs vs hl _ ih => exact .tuple cs vs hl ih
  | fn f cs vs hl _ ih => exact .fn f cs vs hl ih

theorem VRel.val_eq {ψ : Ghost} {prot : Nat → Prop} {w : World} {x v : Value} (h : VRel ψ prot w (.val x) v) : v = x := by cases h; rfl
def VRels (ψ : Ghost) (prot : Nat → Prop) (w : World) (xs : List AVal) (vs : List Value) : Prop :=
  vs.length = xs.length ∧ ∀ (i : Nat) (x : AVal) (v : Value), xs[i]? = some x → vs[i]? = some v → VRel ψ prot w x v
theorem VRels.mono {ψ ψ' : Ghost} {prot prot' : Nat → Prop} {w w' : World} {xs : List AVal} {vs : List Value} (h : VRels ψ prot w xs vs) (hψ : ∀ n k loc, ψ n k = some loc → ψ' n k = some loc)
    (hp : ∀ b, prot b → prot' b ∧ w'.heap[b]? = w.heap[b]?) : VRels ψ' prot' w' xs vs := ⟨h.1, fun i x v h1 h2 => (h.2 i x v h1 h2).mono hψ hp⟩

/-- An object of the call's own. -/
inductive AObj where
  | row (t : TypeId) (sz : Nat) (es : List AVal)
  | box (t : TypeId) (cs : List AVal)
abbrev Objs := Nat → Option (Nat × AObj)

def ORel (ψ : Ghost) (prot : Nat → Prop) (w : World) (loc : Loc) : AObj → Prop
  | .row t sz es => ∃ xs, w.ownsRow 0 t sz (.slice (loc.block.map fun b => ⟨b, 0, none⟩) es.length loc.cap) es.length xs ∧ VRels ψ prot w (es.flatMap AVal.flat) xs
  | .box t cs => ∃ (b : Nat) (vs : List Value), loc.block = some b ∧ w.heap[b]? = some (.cells vs.toArray t (0, 0)) ∧ VRels ψ prot w cs vs

theorem ORel.inside {ψ : Ghost} {prot : Nat → Prop} {w : World} {loc : Loc} : ∀ {o : AObj}, ORel ψ prot w loc o → ∀ b, loc.block = some b → b < w.heap.size
  | .row _ _ _, ⟨_, h, _⟩, b, hb => (h.lt b (by rw [hb]; rfl)).2
  | .box _ _, ⟨b, _, h0, h, _⟩, b', hb => by rw [h0] at hb; injection hb with hb; subst hb; exact (Array.getElem?_eq_some_iff.1 h).1

theorem ORel.mono {ψ ψ' : Ghost} {prot prot' : Nat → Prop} {w w' : World} {loc : Loc} (hψ : ∀ n k loc, ψ n k = some loc → ψ' n k = some loc)
    (hp : ∀ b, prot b → prot' b ∧ w'.heap[b]? = w.heap[b]?) (hb : ∀ b, loc.block = some b → w'.heap[b]? = w.heap[b]?) : ∀ {o : AObj}, ORel ψ prot w loc o → ORel ψ' prot' w' loc o
  | .row t sz es, ⟨xs, h, h2⟩ => by
    refine ⟨xs, ⟨h.1, ?_⟩, h2.mono hψ hp⟩
    rcases h.2 with h3 | ⟨g, cap, cur, h3, h4, h5, h6⟩
    · exact .inl h3
    · injection h3 with e1 e2 e3
      have e4 : loc.block = some g := by
        cases hl : loc.block with
        | none => rw [hl] at e1; cases e1
        | some b => rw [hl] at e1; simp at e1; rw [e1]
      refine .inr ⟨g, cap, cur, by rw [e1, e3], h4, ?_, h6⟩
      rw [hb g e4]; exact h5
  | .box t cs, ⟨b, vs, h0, h, h2⟩ => ⟨b, vs, h0, by rw [hb b h0]; exact h, h2.mono hψ hp⟩

/-- A block that no living object of the call's own lies in. -/
def unowned (ψ : Ghost) (obj : Objs) (w : World) (b : Nat) : Prop := b < w.heap.size ∧ ∀ n k o loc, obj n = some (k, o) → ψ n k = some loc → loc.block ≠ some b

structure RH (ψ : Ghost) (prot : Nat → Prop) (obj : Objs) (w : World) : Prop where
  live : ∀ n k o, obj n = some (k, o) → ∃ loc, ψ n k = some loc ∧ ORel ψ prot w loc o
  inj : ∀ n n' k k' o o' loc loc', obj n = some (k, o) → obj n' = some (k', o') → n ≠ n' → ψ n k = some loc → ψ n' k' = some loc' → ∀ b, loc.block = some b → loc'.block ≠ some b
  pr : ∀ b, prot b → unowned ψ obj w b

structure Evolve (ψ : Ghost) (prot : Nat → Prop) (obj : Objs) (w : World) (ψ' : Ghost) (prot' : Nat → Prop) (obj' : Objs) (w' : World) : Prop where
  os : w'.os = w.os
  tape : w'.tape = w.tape
  output : w'.output = w.output
  size : w.heap.size ≤ w'.heap.size
  gh : ∀ n k loc, ψ n k = some loc → ψ' n k = some loc
  pr : ∀ b, prot b → prot' b
  un : ∀ b, unowned ψ obj w b → unowned ψ' obj' w' b ∧ w'.heap[b]? = w.heap[b]?
  new : ∀ b, prot' b → prot b ∨ ¬ unowned ψ obj w b

namespace Evolve
variable {ψ ψ' ψ'' : Ghost} {prot prot' prot'' : Nat → Prop} {obj obj' obj'' : Objs} {w w' w'' : World}
theorem refl (ψ : Ghost) (prot : Nat → Prop) (obj : Objs) (w : World) : Evolve ψ prot obj w ψ prot obj w := ⟨rfl, rfl, rfl, Nat.le_refl _, fun _ _ _ h => h, fun _ h => h, fun _ h => ⟨h, rfl⟩, fun _ h => .inl h⟩
theorem trans (h : Evolve ψ prot obj w ψ' prot' obj' w') (g : Evolve ψ' prot' obj' w' ψ'' prot'' obj'' w'') : Evolve ψ prot obj w ψ'' prot'' obj'' w'' :=
  ⟨g.os.trans h.os, g.tape.trans h.tape, g.output.trans h.output, Nat.le_trans h.size g.size, fun n k l e => g.gh n k l (h.gh n k l e), fun b hb => g.pr b (h.pr b hb),
    fun b hb => ⟨(g.un b (h.un b hb).1).1, (g.un b (h.un b hb).1).2.trans (h.un b hb).2⟩, fun b hb => (g.new b hb).elim (h.new b) fun hn => .inr fun hu => hn (h.un b hu).1⟩
theorem keeps (h : Evolve ψ prot obj w ψ' prot' obj' w') (r : RH ψ prot obj w) : ∀ b, prot b → prot' b ∧ w'.heap[b]? = w.heap[b]? := fun b hb => ⟨h.pr b hb, (h.un b (r.pr b hb)).2⟩
theorem drew (h : Evolve ψ prot obj w ψ' prot' obj' w') : Evolve ψ prot obj w ψ' prot' obj' w'.drew := ⟨h.os, h.tape, h.output, h.size, h.gh, h.pr, h.un, h.new⟩
end Evolve
theorem VRel.drew {ψ : Ghost} {prot : Nat → Prop} {w : World} {x : AVal} {v : Value} (h : VRel ψ prot w x v) : VRel ψ prot w.drew x v := h.mono (fun _ _ _ h => h) fun _ h => ⟨h, rfl⟩
theorem ORel.drew {ψ : Ghost} {prot : Nat → Prop} {w : World} {loc : Loc} {o : AObj} (h : ORel ψ prot w loc o) : ORel ψ prot w.drew loc o := ORel.mono (w := w) (w' := w.drew) (fun _ _ _ h => h) (fun _ h => ⟨h, rfl⟩) (fun _ _ => rfl) h
theorem RH.drew {ψ : Ghost} {prot : Nat → Prop} {obj : Objs} {w : World} (h : RH ψ prot obj w) : RH ψ prot obj w.drew :=
  ⟨fun n k o e => let ⟨l, h1, h2⟩ := h.live n k o e; ⟨l, h1, h2.drew⟩, h.inj, h.pr⟩

abbrev Writes := List (Nat × Option (Nat × AObj))
def updW (obj : Objs) (wr : Writes) : Objs := fun n => match wr.lookup n with | some x => x | none => obj n
def Writes.names (wr : Writes) : List Nat := wr.map (·.1)
theorem lookup_none_of_not_mem : ∀ {wr : Writes} {n : Nat}, n ∉ wr.names → wr.lookup n = none
  | [], _, _ => rfl
  | (m, x) :: wr, n, h => by
    simp only [Writes.names, List.map_cons, List.mem_cons, not_or] at h
    rw [List.lookup_cons]
    have : (n == m) = false := by simpa using h.1
    rw [this]
    exact lookup_none_of_not_mem (wr := wr) h.2
theorem updW_off {obj : Objs} {wr : Writes} {n : Nat} (h : n ∉ wr.names) : updW obj wr n = obj n := by simp [updW, lookup_none_of_not_mem h]
theorem updW_congr {obj obj' : Objs} {wr : Writes} {n : Nat} (h : obj n = obj' n) : updW obj wr n = updW obj' wr n := by simp [updW, h]
theorem mem_names_of_lookup : ∀ {wr : Writes} {n : Nat} {x}, wr.lookup n = some x → n ∈ wr.names := fun {wr n x} h => by
  by_cases hn : n ∈ wr.names
  · exact hn
  · rw [lookup_none_of_not_mem hn] at h; cases h

structure St where
  env : List (Nat × AVal)
  objs : Writes
def St.get (st : St) (t : Nat) : AVal := match st.env.lookup t with | some v => v | none => .any
def St.obj (st : St) : Objs := updW (fun _ => none) st.objs
def St.put (st : St) (dst : Option Tmp) (v : AVal) (wr : Writes) : St := ⟨match dst with | some d => (d, v) :: st.env | none => st.env, wr ++ st.objs⟩
def St.aop (st : St) : Operand → AVal
  | .tmp t => st.get t
  | .const v => .val v
  | .global _ => .any
  | .func f => .fn f []
theorem lookup_append : ∀ (xs ys : Writes) (n : Nat), (xs ++ ys).lookup n = (match xs.lookup n with | some x => some x | none => ys.lookup n)
  | [], _, _ => rfl
  | (m, x) :: xs, ys, n => by
    rw [List.cons_append, List.lookup_cons, List.lookup_cons]
    cases n == m with
    | true => rfl
    | false => exact lookup_append xs ys n
theorem St.obj_put (st : St) (dst : Option Tmp) (v : AVal) (wr : Writes) : (st.put dst v wr).obj = updW st.obj wr := by
  funext n
  simp only [St.obj, St.put, updW, lookup_append]
  cases wr.lookup n <;> rfl
theorem St.get_put (st : St) (dst : Option Tmp) (v : AVal) (wr : Writes) (t : Nat) : (st.put dst v wr).get t = if dst = some t then v else st.get t := by
  cases dst with
  | none => simp [St.get, St.put]
  | some d =>
    simp only [St.get, St.put, List.lookup_cons]
    by_cases h : d = t
    · subst h; simp
    · have e1 : (t == d) = false := by simpa using fun e => h e.symm
      simp [e1, h]

/-- What an operation does: its value, the objects that it writes, those that it looks at or writes, those that it makes. -/
structure Tr where
  v : AVal
  wr : Writes
  touch : List Nat
  made : List Nat
instance : Inhabited Tr := ⟨⟨.any, [], [], []⟩⟩

def OpOk (P : Program) (k : Nat) (st : St) (o : Oper) (tr : Tr) : Prop :=
  (∀ n ∈ tr.wr.names, n ∈ tr.touch) ∧
  ∀ (ψ : Ghost) (prot : Nat → Prop) (obj : Objs) (w : World) (ρ : Operand → Value), (∀ n ∈ tr.touch, obj n = st.obj n) → (∀ x ∈ o.op.operands, VRel ψ prot w (st.aop x) (ρ x)) → RH ψ prot obj w → (∀ n ∈ tr.made, ψ n k = none) →
    specUpon P (fun cv w' => ∃ ψ' prot', Evolve ψ prot obj w ψ' prot' (updW obj tr.wr) w' ∧ RH ψ' prot' (updW obj tr.wr) w' ∧ VRel ψ' prot' w' tr.v cv ∧ ∀ n k', ψ' n k' ≠ none → ψ n k' ≠ none ∨ (k' = k ∧ n ∈ tr.made))
      ((execOp ρ o).run P w)

def Step (P : Program) (k : Nat) (ops : Array Oper) (st : St) (o : Oper) (tr : Tr) : Prop :=
  (o.guard = none ∧ OpOk P k st o tr) ∨
  ∃ g want t b, o.guard = some (g, want) ∧ dstOf ops g = some t ∧ st.get t = .val (.bool b) ∧ ((b = want ∧ OpOk P k st o tr) ∨ (b ≠ want ∧ tr.v = .any ∧ tr.wr = [] ∧ tr.made = []))

inductive RunOps (P : Program) (k : Nat) (ops : Array Oper) : List Oper → St → List Tr → St → Prop where
  | nil (st : St) : RunOps P k ops [] st [] st
  | cons {o : Oper} {os : List Oper} {st st' : St} {tr : Tr} {trs : List Tr} (h : Step P k ops st o tr) (t : RunOps P k ops os (st.put o.dst tr.v tr.wr) trs st') : RunOps P k ops (o :: os) st (tr :: trs) st'

/-- The state behind the first operations. -/
def stN (st : St) : List Oper → List Tr → St
  | o :: os, tr :: trs => stN (st.put o.dst tr.v tr.wr) os trs
  | _, _ => st
theorem stN_snoc : ∀ (os : List Oper) (trs : List Tr) (st : St) (o : Oper) (tr : Tr), os.length = trs.length → stN st (os ++ [o]) (trs ++ [tr]) = (stN st os trs).put o.dst tr.v tr.wr
  | [], [], _, _, _, _ => rfl
  | [], _ :: _, _, _, _, h => by cases h
  | _ :: _, [], _, _, _, h => by cases h
  | o' :: os, tr' :: trs, st, o, tr, h => by
    simp only [List.cons_append, stN]
    exact stN_snoc os trs _ o tr (by simpa using h)
theorem RunOps.all {P : Program} {k : Nat} {ops : Array Oper} {os : List Oper} {st st' : St} {trs : List Tr} (h : RunOps P k ops os st trs st') :
    trs.length = os.length ∧ st' = stN st os trs ∧ ∀ (i : Nat) (o : Oper) (tr : Tr), os[i]? = some o → trs[i]? = some tr → Step P k ops (stN st (os.take i) (trs.take i)) o tr := by
  induction h with
  | nil st => exact ⟨rfl, rfl, fun i o tr h => by simp at h⟩
  | cons h _ ih =>
    obtain ⟨h1, h2, h3⟩ := ih
    refine ⟨by simp [h1], h2, fun i o tr ho htr => ?_⟩
    cases i with
    | zero =>
      simp only [List.getElem?_cons_zero, Option.some.injEq] at ho htr
      subst ho; subst htr
      exact h
    | succ i =>
      simp only [List.getElem?_cons_succ] at ho htr
      exact h3 i o tr ho htr

structure Ini where
  ψ : Ghost
  prot : Nat → Prop
  obj : Objs
  w : World

/-- The state says of frame and world what is so. -/
structure R (N : Nat) (ini : Ini) (st : St) (a : Act) (w : World) : Prop where
  defers : a.defers = []
  size : a.tmps.size = N
  rel : ∃ ψ prot, Evolve ini.ψ ini.prot ini.obj ini.w ψ prot st.obj w ∧ RH ψ prot st.obj w ∧ (∃ K, ∀ n k, K ≤ k → ψ n k = none) ∧ ∀ t, VRel ψ prot w (st.get t) (a.eval (.tmp t))

def Awp (P : Program) (N : Nat) (ini : Ini) (c : Code) (Q : Exit → St → Prop) (st : St) : Prop :=
  ∀ a w, R N ini st a w → c.wp P (fun e a' w' => ∃ st', R N ini st' a' w' ∧ Q e st') a w
end Go.Proofs.Ytojapodjlpffdaa
