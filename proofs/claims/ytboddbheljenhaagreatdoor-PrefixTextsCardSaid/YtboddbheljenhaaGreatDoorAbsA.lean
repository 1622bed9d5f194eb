/-
  What a function knows at a point, said without addresses: slots hold values by their contents, memory of the call's own goes by names. A region's operations are looked at once, in the text's order; the theorem says that every order that may be drawn ends in the same state. No program is named here. The theorem on regions: what is found in the text's order holds in every order that may be drawn. No program is named here. The rules for code, and for functions: what a body does by states, and what a call of it does in the caller's state. No program is named here. A call inside a region, by what is known of the function. No program is named here. What single operations do by states. No program is named here. Operations that look at memory, or write it, by states. No program is named here. Operations that write, slices, literals, by states. No program is named here. append, literals of slices and structs, make, by states. No program is named here.
-/
import Derived.Test.YtboddbheljenhaaGreatDoorG02
import Derived.Great.BuildSlice
import Derived.Great.FillDense
import Derived.Lib.ItoaNum
namespace Go.Proofs.YtboddbheljenhaaGreatDoor
open Go.RowKit

inductive AVal where
  | any
  | val (v : Value)
  | ro (es : List AVal)
  | own (n k len : Nat)
  | ptr (n k off : Nat)
  | sub (n k off len sz : Nat)
  | win (n k len : Nat)
  | wptr (n k i : Nat)
  | mp (n k : Nat)
  | rref (cs : List AVal)
  | agg (cs : List AVal)
  | tuple (vs : List AVal)
  | fn (f : FuncId) (caps : List AVal)
  | ifc (t : TypeId)
instance : Inhabited AVal := ⟨.any⟩

def AVal.flat : AVal → List AVal
  | .agg cs => cs
  | .val (.agg cs) => cs.toList.map .val
  | v => [v]

structure Loc where
  block : Option Nat
  cap : Nat
abbrev Ghost := Nat → Nat → Option Loc

inductive VRel (ψ : Ghost) (prot : Nat → Prop) (w : World) : AVal → Value → Prop where
  | any (v : Value) : VRel ψ prot w .any v
  | val (v : Value) : VRel ψ prot w (.val v) v
  | roNil (a : Option Addr) (cap : Nat) (h : a = none → cap = 0) : VRel ψ prot w (.ro []) (.slice a 0 cap)
  | ro (es : List AVal) (vs : List Value) (b o cap : Nat) (hcp : es.length ≤ cap) (hp : prot b) (hl : vs.length = (es.flatMap AVal.flat).length) (hc : ∀ (i : Nat) (v : Value), vs[i]? = some v → w.cell? ⟨b, o + i, none⟩ = some v)
      (hv : ∀ (i : Nat) (x : AVal) (v : Value), (es.flatMap AVal.flat)[i]? = some x → vs[i]? = some v → VRel ψ prot w x v) : VRel ψ prot w (.ro es) (.slice (some ⟨b, o, none⟩) es.length cap)
  | own (n k len : Nat) (loc : Loc) (h : ψ n k = some loc) : VRel ψ prot w (.own n k len) (.slice (loc.block.map fun b => ⟨b, 0, none⟩) len loc.cap)
  | ptr (n k off b cap : Nat) (h : ψ n k = some ⟨some b, cap⟩) : VRel ψ prot w (.ptr n k off) (.pointer (some ⟨b, off, none⟩))
  | sub (n k off len sz b cap : Nat) (h : ψ n k = some ⟨some b, cap⟩) : VRel ψ prot w (.sub n k off len sz) (.slice (some ⟨b, if cap = off then 0 else off * sz, none⟩) len (cap - off))
  | win (n k len b o cap : Nat) (hc : cap < 9223372036854775808) (h : ψ n k = some ⟨some b, o * 9223372036854775808 + cap⟩) : VRel ψ prot w (.win n k len) (.slice (some ⟨b, o, none⟩) len cap)
  | wptr (n k i b o cap : Nat) (hc : cap < 9223372036854775808) (h : ψ n k = some ⟨some b, o * 9223372036854775808 + cap⟩) : VRel ψ prot w (.wptr n k i) (.pointer (some ⟨b, o + i, none⟩))
  | mp (n k b cap : Nat) (h : ψ n k = some ⟨some b, cap⟩) : VRel ψ prot w (.mp n k) (.map (some b))
  | rref (cs : List AVal) (vs : List Value) (b o : Nat) (hp : prot b) (hl : vs.length = cs.length) (hc : ∀ (i : Nat) (v : Value), vs[i]? = some v → w.cell? ⟨b, o + i, none⟩ = some v)
      (hv : ∀ (i : Nat) (x : AVal) (v : Value), cs[i]? = some x → vs[i]? = some v → VRel ψ prot w x v) : VRel ψ prot w (.rref cs) (.pointer (some ⟨b, o, none⟩))
  | agg (cs : List AVal) (vs : Array Value) (hl : vs.size = cs.length) (hv : ∀ (i : Nat) (x : AVal) (v : Value), cs[i]? = some x → vs[i]? = some v → VRel ψ prot w x v) : VRel ψ prot w (.agg cs) (.agg vs)
  | tuple (cs : List AVal) (vs : Array Value) (hl : vs.size = cs.length) (hv : ∀ (i : Nat) (x : AVal) (v : Value), cs[i]? = some x → vs[i]? = some v → VRel ψ prot w x v) : VRel ψ prot w (.tuple cs) (.tuple vs)
  | fn (f : FuncId) (cs : List AVal) (vs : Array Value) (hl : vs.size = cs.length) (hv : ∀ (i : Nat) (x : AVal) (v : Value), cs[i]? = some x → vs[i]? = some v → VRel ψ prot w x v) : VRel ψ prot w (.fn f cs) (.func (.func f) #[] vs)
  | ifc (t : TypeId) (v : Value) : VRel ψ prot w (.ifc t) (.iface t v)

theorem VRel.mono {ψ ψ' : Ghost} {prot prot' : Nat → Prop} {w w' : World} {x : AVal} {v : Value} (h : VRel ψ prot w x v) (hψ : ∀ n k loc, ψ n k = some loc → ψ' n k = some loc)
    (hp : ∀ b, prot b → prot' b ∧ w'.heap[b]? = w.heap[b]?) : VRel ψ' prot' w' x v := by
  induction h with
  | any v => exact .any v
  | val v => exact .val v
  | roNil a cap h => exact .roNil a cap h
  | ro es vs b o cap hcp hb hl hc _ ih => exact .ro es vs b o cap hcp (hp b hb).1 hl (fun i v h => (World.cell?_of_block (hp b hb).2).trans (hc i v h)) ih
  | own n k len loc h => exact .own n k len loc (hψ _ _ _ h)
  | ptr n k off b cap h => exact .ptr n k off b cap (hψ _ _ _ h)
  | sub n k off len sz b cap h => exact .sub n k off len sz b cap (hψ _ _ _ h)
  | win n k len b o cap hc h => exact .win n k len b o cap hc (hψ _ _ _ h)
  | wptr n k i b o cap hc h => exact .wptr n k i b o cap hc (hψ _ _ _ h)
  | mp n k b cap h => exact .mp n k b cap (hψ _ _ _ h)
  | rref cs vs b o hb hl hc _ ih => exact .rref cs vs b o (hp b hb).1 hl (fun i v h => (World.cell?_of_block (hp b hb).2).trans (hc i v h)) ih
  | agg cs vs hl _ ih => exact .agg cs vs hl ih
  | tuple cs vs hl _ ih => exact .tuple cs vs hl ih
  | fn f cs vs hl _ ih => exact .fn f cs vs hl ih
  | ifc t v => exact .ifc t v

theorem VRel.val_eq {ψ : Ghost} {prot : Nat → Prop} {w : World} {x v : Value} (h : VRel ψ prot w (.val x) v) : v = x := by cases h; rfl
def VRels (ψ : Ghost) (prot : Nat → Prop) (w : World) (xs : List AVal) (vs : List Value) : Prop :=
  vs.length = xs.length ∧ ∀ (i : Nat) (x : AVal) (v : Value), xs[i]? = some x → vs[i]? = some v → VRel ψ prot w x v
theorem VRels.mono {ψ ψ' : Ghost} {prot prot' : Nat → Prop} {w w' : World} {xs : List AVal} {vs : List Value} (h : VRels ψ prot w xs vs) (hψ : ∀ n k loc, ψ n k = some loc → ψ' n k = some loc)
    (hp : ∀ b, prot b → prot' b ∧ w'.heap[b]? = w.heap[b]?) : VRels ψ' prot' w' xs vs := ⟨h.1, fun i x v h1 h2 => (h.2 i x v h1 h2).mono hψ hp⟩

def lookI : List MapEntry → Int → Option Value
  | [], _ => none
  | e :: es, x => match e.key with | .int .i64 y => if x = y then some e.val else lookI es x | _ => none
def keysI (es : List MapEntry) : Prop := ∀ e ∈ es, ∃ y : Int, e.key = .int .i64 y
def lookK : List MapEntry → Int → Option Value
  | [], _ => none
  | e :: es, x => match e.key with | .int _ y => if x = y then some e.val else lookK es x | _ => none
def keysK (kd : IntKind) (es : List MapEntry) : Prop := ∀ e ∈ es, ∃ y : Int, e.key = .int kd y
def OptR (R : AVal → Value → Prop) : Option AVal → Option Value → Prop
  | none, none => True
  | some a, some v => R a v
  | _, _ => False
theorem OptR.imp {R R' : AVal → Value → Prop} {x : Option AVal} {y : Option Value} (h : OptR R x y) (hi : ∀ a v, x = some a → R a v → R' a v) : OptR R' x y := by
  cases x <;> cases y
  · trivial
  · exact h.elim
  · exact h.elim
  · exact hi _ _ rfl h
inductive AObj where
  | row (t : TypeId) (sz : Nat) (es : List AVal)
  | box (t : TypeId) (cs : List AVal)
  | que (t : TypeId) (sz : Nat) (es : List AVal)
  | mapI (f : Int → Option Value)
  | mapV (kd : IntKind) (l : List (Int × AVal))
  | rowS (t : TypeId) (sz : Nat) (es : List AVal) (n kn len : Nat)
  | arr (t : TypeId) (cs : List AVal)
  | rowF (xs : List Int)
abbrev Objs := Nat → Option (Nat × AObj)

def ORel (ψ : Ghost) (prot : Nat → Prop) (w : World) (loc : Loc) : AObj → Prop
  | .row t sz es => ∃ xs, w.ownsRow 0 t sz (.slice (loc.block.map fun b => ⟨b, 0, none⟩) es.length loc.cap) es.length xs ∧ VRels ψ prot w (es.flatMap AVal.flat) xs
  | .box t cs => ∃ (b : Nat) (vs : List Value), loc.block = some b ∧ w.heap[b]? = some (.cells vs.toArray t (0, 0)) ∧ VRels ψ prot w cs vs
  | .que t sz es => ∃ (b o cap : Nat) (cur : Array Value) (xs : List Value), loc = ⟨some b, o * 9223372036854775808 + cap⟩ ∧ cap ≤ maxLen ∧ w.heap[b]? = some (.cells cur t (0, 0)) ∧ es.length ≤ cap ∧ (cap = 0 ∨ o + cap * sz ≤ cur.size) ∧ xs.length = es.length * sz ∧ (∀ (i : Nat) (v : Value), xs[i]? = some v → cur[o + i]? = some v) ∧ VRels ψ prot w (es.flatMap AVal.flat) xs
  | .mapI f => ∃ (b : Nat) (es : Array MapEntry) (c : Nat), loc.block = some b ∧ w.heap[b]? = some (.map es c) ∧ keysI es.toList ∧ ∀ x, lookI es.toList x = f x
  | .mapV kd l => ∃ (b : Nat) (es : Array MapEntry) (c : Nat), loc.block = some b ∧ w.heap[b]? = some (.map es c) ∧ keysK kd es.toList ∧ ∀ x, OptR (VRel ψ prot w) (l.lookup x) (lookK es.toList x)
  | .arr t cs => ∃ (b : Nat) (vs : List Value), loc = ⟨some b, cs.length⟩ ∧ w.heap[b]? = some (.cells vs.toArray t (0, 0)) ∧ VRels ψ prot w cs vs
  | .rowF xs => ∃ (b : Nat) (cur : Array Value) (t : TypeId) (fr : Nat × Nat), loc.block = some b ∧ w.heap[b]? = some (.cells cur t fr) ∧ cur.size ≤ fr.1 ∧ xs.length ≤ cur.size ∧ xs.length ≤ loc.cap ∧ ∀ (i : Nat) (x : Int), xs[i]? = some x → cur[i]? = some (.int .u8 x)
  | .rowS t sz es n kn len => (∃ xs, w.ownsRow 0 t sz (.slice (loc.block.map fun b => ⟨b, 0, none⟩) es.length loc.cap) es.length xs ∧ VRels ψ prot w (es.flatMap AVal.flat) xs) ∧ ∃ (ln : Loc) (b : Nat) (ys : List Value), ψ n kn = some ln ∧ ln.block = some b ∧ (prot b ∨ loc.block = some b) ∧ VRels ψ prot w ((es.take len).flatMap AVal.flat) ys ∧ ∀ (j : Nat) (u : Value), ys[j]? = some u → w.cell? ⟨b, j, none⟩ = some u

theorem ORel.inside {ψ : Ghost} {prot : Nat → Prop} {w : World} {loc : Loc} : ∀ {o : AObj}, ORel ψ prot w loc o → ∀ b, loc.block = some b → b < w.heap.size
  | .row _ _ _, ⟨_, h, _⟩, b, hb => (h.lt b (by rw [hb]; rfl)).2
  | .box _ _, ⟨b, _, h0, h, _⟩, b', hb => by rw [h0] at hb; injection hb with hb; subst hb; exact (Array.getElem?_eq_some_iff.1 h).1
  | .que _ _ _, ⟨b, _, _, _, _, h0, _, h, _⟩, b', hb => by rw [h0] at hb; injection hb with hb; subst hb; exact (Array.getElem?_eq_some_iff.1 h).1
  | .mapI _, ⟨b, _, _, h0, h, _⟩, b', hb => by rw [h0] at hb; injection hb with hb; subst hb; exact (Array.getElem?_eq_some_iff.1 h).1
  | .rowS _ _ _ _ _ _, ⟨⟨_, h, _⟩, _⟩, b, hb => (h.lt b (by rw [hb]; rfl)).2
  | .mapV _ _, ⟨b, _, _, h0, h, _⟩, b', hb => by rw [h0] at hb; injection hb with hb; subst hb; exact (Array.getElem?_eq_some_iff.1 h).1
  | .arr _ _, ⟨b, _, h0, h, _⟩, b', hb => by rw [h0] at hb; injection hb with hb; subst hb; exact (Array.getElem?_eq_some_iff.1 h).1
  | .rowF _, ⟨b, _, _, _, h0, h, _⟩, b', hb => by rw [h0] at hb; injection hb with hb; subst hb; exact (Array.getElem?_eq_some_iff.1 h).1

theorem ORel.mono {ψ ψ' : Ghost} {prot prot' : Nat → Prop} {w w' : World} {loc : Loc} (hψ : ∀ n k loc, ψ n k = some loc → ψ' n k = some loc)
    (hp : ∀ b, prot b → prot' b ∧ w'.heap[b]? = w.heap[b]?) (hb : ∀ b, loc.block = some b → w'.heap[b]? = w.heap[b]?) : ∀ {o : AObj}, ORel ψ prot w loc o → ORel ψ' prot' w' loc o
  | .row t sz es, ⟨xs, h, h2⟩ => by
    refine ⟨xs, ⟨h.1, ?_⟩, h2.mono hψ hp⟩
    rcases h.2 with h3 | ⟨g, cap, cur, h3, h4, h5, h6⟩
    · exact .inl h3
    · injection h3 with e1 e2 e3
      have e4 : loc.block = some g := by
        cases hl : loc.block with
        | none => rw [hl] at e1; cases e1
        | some b => rw [hl] at e1; simp at e1; rw [e1]
      refine .inr ⟨g, cap, cur, by rw [e1, e3], h4, ?_, h6⟩
      rw [hb g e4]; exact h5
  | .box t cs, ⟨b, vs, h0, h, h2⟩ => ⟨b, vs, h0, by rw [hb b h0]; exact h, h2.mono hψ hp⟩
  | .que t sz es, ⟨b, o, cap, cur, xs, h0, h1, h, h3, h4, h5, h6, h7⟩ => ⟨b, o, cap, cur, xs, h0, h1, by rw [hb b (by rw [h0])]; exact h, h3, h4, h5, h6, h7.mono hψ hp⟩
  | .mapI f, ⟨b, es, c, h0, h, h1, h2⟩ => ⟨b, es, c, h0, by rw [hb b h0]; exact h, h1, h2⟩
  | .mapV kd l, ⟨b, es, c, h0, h, h1, h2⟩ => ⟨b, es, c, h0, by rw [hb b h0]; exact h, h1, fun x => (h2 x).imp fun a v _ q => q.mono hψ hp⟩
  | .arr t cs, ⟨b, vs, h0, h, h2⟩ => ⟨b, vs, h0, by rw [hb b (by rw [h0])]; exact h, h2.mono hψ hp⟩
  | .rowF xs, ⟨b, cur, t, fr, h0, h, h2⟩ => ⟨b, cur, t, fr, h0, by rw [hb b h0]; exact h, h2⟩
  | .rowS t sz es n kn len, ⟨⟨xs, h, h2⟩, ln, b, ys, g1, g2, g3, g4, g5⟩ => by
    refine ⟨⟨xs, ⟨h.1, ?_⟩, h2.mono hψ hp⟩, ln, b, ys, hψ _ _ _ g1, g2, g3.imp (fun q => (hp b q).1) id, g4.mono hψ hp, fun j u hj => ?_⟩
    · rcases h.2 with h3 | ⟨g, cap, cur, h3, h4, h5, h6⟩
      · exact .inl h3
      · injection h3 with e1 e2 e3
        have e4 : loc.block = some g := by
          cases hl : loc.block with
          | none => rw [hl] at e1; cases e1
          | some b => rw [hl] at e1; simp at e1; rw [e1]
        refine .inr ⟨g, cap, cur, by rw [e1, e3], h4, ?_, h6⟩
        rw [hb g e4]; exact h5
    · refine (World.cell?_of_block ?_).trans (g5 j u hj)
      rcases g3 with q | q
      · exact (hp b q).2
      · exact hb b q

def unowned (ψ : Ghost) (obj : Objs) (w : World) (b : Nat) : Prop := b < w.heap.size ∧ ∀ n k o loc, obj n = some (k, o) → ψ n k = some loc → loc.block ≠ some b

structure RH (ψ : Ghost) (prot : Nat → Prop) (obj : Objs) (w : World) : Prop where
  live : ∀ n k o, obj n = some (k, o) → ∃ loc, ψ n k = some loc ∧ ORel ψ prot w loc o
  inj : ∀ n n' k k' o o' loc loc', obj n = some (k, o) → obj n' = some (k', o') → n ≠ n' → ψ n k = some loc → ψ n' k' = some loc' → ∀ b, loc.block = some b → loc'.block ≠ some b
  pr : ∀ b, prot b → unowned ψ obj w b

structure Evolve (ψ : Ghost) (prot : Nat → Prop) (obj : Objs) (w : World) (ψ' : Ghost) (prot' : Nat → Prop) (obj' : Objs) (w' : World) : Prop where
  os : w'.os = w.os
  tape : w'.tape = w.tape
  output : w'.output = w.output
  size : w.heap.size ≤ w'.heap.size
  gh : ∀ n k loc, ψ n k = some loc → ψ' n k = some loc
  pr : ∀ b, prot b → prot' b
  un : ∀ b, unowned ψ obj w b → unowned ψ' obj' w' b ∧ w'.heap[b]? = w.heap[b]?
  new : ∀ b, prot' b → prot b ∨ ¬ unowned ψ obj w b

namespace Evolve
variable {ψ ψ' ψ'' : Ghost} {prot prot' prot'' : Nat → Prop} {obj obj' obj'' : Objs} {w w' w'' : World}
theorem refl (ψ : Ghost) (prot : Nat → Prop) (obj : Objs) (w : World) : Evolve ψ prot obj w ψ prot obj w := ⟨rfl, rfl, rfl, Nat.le_refl _, fun _ _ _ h => h, fun _ h => h, fun _ h => ⟨h, rfl⟩, fun _ h => .inl h⟩
theorem trans (h : Evolve ψ prot obj w ψ' prot' obj' w') (g : Evolve ψ' prot' obj' w' ψ'' prot'' obj'' w'') : Evolve ψ prot obj w ψ'' prot'' obj'' w'' :=
  ⟨g.os.trans h.os, g.tape.trans h.tape, g.output.trans h.output, Nat.le_trans h.size g.size, fun n k l e => g.gh n k l (h.gh n k l e), fun b hb => g.pr b (h.pr b hb),
    fun b hb => ⟨(g.un b (h.un b hb).1).1, (g.un b (h.un b hb).1).2.trans (h.un b hb).2⟩, fun b hb => (g.new b hb).elim (h.new b) fun hn => .inr fun hu => hn (h.un b hu).1⟩
theorem keeps (h : Evolve ψ prot obj w ψ' prot' obj' w') (r : RH ψ prot obj w) : ∀ b, prot b → prot' b ∧ w'.heap[b]? = w.heap[b]? := fun b hb => ⟨h.pr b hb, (h.un b (r.pr b hb)).2⟩
theorem drew (h : Evolve ψ prot obj w ψ' prot' obj' w') : Evolve ψ prot obj w ψ' prot' obj' w'.drew := ⟨h.os, h.tape, h.output, h.size, h.gh, h.pr, h.un, h.new⟩
end Evolve
def varWants : List (Nat × (Array Value → Prop)) := []
  ++ [(1, fun cs => cs = (Lib.pow10Tab.map fun z => Value.int .u64 z).toArray)]
  ++ [(2, fun cs => ∃ te pe, cs = #[.iface te pe])]
  ++ [(3, fun cs => ∃ te pe, cs = #[.iface te pe])]
  ++ [(5, fun cs => cs[15]? = some (.int .u8 4))]
  ++ [(0, fun cs => ∃ m, cs = #[.int .i64 m])]
def VarsOk (prot : Nat → Prop) (w : World) : Prop := ∀ x ∈ varWants, prot x.1 ∧ ∃ cs t fr, w.heap[x.1]? = some (.cells cs t fr) ∧ x.2 cs
theorem VarsOk.mono {prot prot' : Nat → Prop} {w w' : World} (h : VarsOk prot w) (hp : ∀ b, prot b → prot' b ∧ w'.heap[b]? = w.heap[b]?) : VarsOk prot' w' := fun x hx => by
  obtain ⟨h1, cs, t, fr, h2, h3⟩ := h x hx
  exact ⟨(hp _ h1).1, cs, t, fr, (hp _ h1).2.trans h2, h3⟩
structure RHV (ψ : Ghost) (prot : Nat → Prop) (obj : Objs) (w : World) : Prop extends RH ψ prot obj w where
  vr : VarsOk prot w
instance {ψ : Ghost} {prot : Nat → Prop} {obj : Objs} {w : World} : Coe (RHV ψ prot obj w) (RH ψ prot obj w) := ⟨RHV.toRH⟩

theorem VRel.drew {ψ : Ghost} {prot : Nat → Prop} {w : World} {x : AVal} {v : Value} (h : VRel ψ prot w x v) : VRel ψ prot w.drew x v := h.mono (fun _ _ _ h => h) fun _ h => ⟨h, rfl⟩
theorem ORel.drew {ψ : Ghost} {prot : Nat → Prop} {w : World} {loc : Loc} {o : AObj} (h : ORel ψ prot w loc o) : ORel ψ prot w.drew loc o := ORel.mono (w := w) (w' := w.drew) (fun _ _ _ h => h) (fun _ h => ⟨h, rfl⟩) (fun _ _ => rfl) h
theorem RH.drew {ψ : Ghost} {prot : Nat → Prop} {obj : Objs} {w : World} (h : RH ψ prot obj w) : RH ψ prot obj w.drew :=
  ⟨fun n k o e => let ⟨l, h1, h2⟩ := h.live n k o e; ⟨l, h1, h2.drew⟩, h.inj, h.pr⟩

abbrev Writes := List (Nat × Option (Nat × AObj))
def updW (obj : Objs) (wr : Writes) : Objs := fun n => match wr.lookup n with | some x => x | none => obj n
def Writes.names (wr : Writes) : List Nat := wr.map (·.1)
theorem lookup_none_of_not_mem : ∀ {wr : Writes} {n : Nat}, n ∉ wr.names → wr.lookup n = none
  | [], _, _ => rfl
  | (m, x) :: wr, n, h => by
    simp only [Writes.names, List.map_cons, List.mem_cons, not_or] at h
    rw [List.lookup_cons]
    have : (n == m) = false := by simpa using h.1
    rw [this]
    exact lookup_none_of_not_mem (wr := wr) h.2
theorem updW_off {obj : Objs} {wr : Writes} {n : Nat} (h : n ∉ wr.names) : updW obj wr n = obj n := by simp [updW, lookup_none_of_not_mem h]
theorem updW_congr {obj obj' : Objs} {wr : Writes} {n : Nat} (h : obj n = obj' n) : updW obj wr n = updW obj' wr n := by simp [updW, h]
structure St where
  env : List (Nat × AVal)
  objs : Writes
def St.get (st : St) (t : Nat) : AVal := match st.env.lookup t with | some v => v | none => .any
def St.obj (st : St) : Objs := updW (fun _ => none) st.objs
def St.put (st : St) (dst : Option Tmp) (v : AVal) (wr : Writes) : St := ⟨match dst with | some d => (d, v) :: st.env | none => st.env, wr ++ st.objs⟩
def St.aop (st : St) : Operand → AVal
  | .tmp t => st.get t
  | .const v => .val v
  | .global _ => .any
  | .func f => .fn f []
theorem lookup_append : ∀ (xs ys : Writes) (n : Nat), (xs ++ ys).lookup n = (match xs.lookup n with | some x => some x | none => ys.lookup n)
  | [], _, _ => rfl
  | (m, x) :: xs, ys, n => by
    rw [List.cons_append, List.lookup_cons, List.lookup_cons]
    cases n == m with
    | true => rfl
    | false => exact lookup_append xs ys n
theorem St.obj_put (st : St) (dst : Option Tmp) (v : AVal) (wr : Writes) : (st.put dst v wr).obj = updW st.obj wr := by
  funext n
  simp only [St.obj, St.put, updW, lookup_append]
  cases wr.lookup n <;> rfl
theorem St.get_put (st : St) (dst : Option Tmp) (v : AVal) (wr : Writes) (t : Nat) : (st.put dst v wr).get t = if dst = some t then v else st.get t := by
  cases dst with
  | none => simp [St.get, St.put]
  | some d =>
    simp only [St.get, St.put, List.lookup_cons]
    by_cases h : d = t
    · subst h; simp
    · have e1 : (t == d) = false := by simpa using fun e => h e.symm
      simp [e1, h]

structure Tr where
  v : AVal
  wr : Writes
  touch : List Nat
  made : List Nat
instance : Inhabited Tr := ⟨⟨.any, [], [], []⟩⟩

def OpOk (P : Program) (k : Nat) (st : St) (o : Oper) (tr : Tr) : Prop :=
  (∀ n ∈ tr.wr.names, n ∈ tr.touch) ∧
  ∀ (ψ : Ghost) (prot : Nat → Prop) (obj : Objs) (w : World) (ρ : Operand → Value), (∀ n ∈ tr.touch, obj n = st.obj n) → (∀ x ∈ o.op.operands, VRel ψ prot w (st.aop x) (ρ x)) → RHV ψ prot obj w → (∀ n ∈ tr.made, ψ n k = none) →
    specUpon P (fun cv w' => ∃ ψ' prot', Evolve ψ prot obj w ψ' prot' (updW obj tr.wr) w' ∧ RH ψ' prot' (updW obj tr.wr) w' ∧ VRel ψ' prot' w' tr.v cv ∧ ∀ n k', ψ' n k' ≠ none → ψ n k' ≠ none ∨ (k' = k ∧ n ∈ tr.made))
      ((execOp ρ o).run P w)

def Step (P : Program) (k : Nat) (ops : Array Oper) (st : St) (o : Oper) (tr : Tr) : Prop :=
  (o.guard = none ∧ OpOk P k st o tr) ∨
  ∃ g want t x, o.guard = some (g, want) ∧ dstOf ops g = some t ∧ st.get t = .val x ∧ ((x = .bool want ∧ OpOk P k st o tr) ∨ (x ≠ .bool want ∧ (tr.v = .any ∨ tr.v = .val undef) ∧ tr.wr = [] ∧ tr.made = []))

inductive RunOps (P : Program) (k : Nat) (ops : Array Oper) : List Oper → St → List Tr → St → Prop where
  | nil (st : St) : RunOps P k ops [] st [] st
  | cons {o : Oper} {os : List Oper} {st st' : St} {tr : Tr} {trs : List Tr} (h : Step P k ops st o tr) (t : RunOps P k ops os (st.put o.dst tr.v tr.wr) trs st') : RunOps P k ops (o :: os) st (tr :: trs) st'

def stN (st : St) : List Oper → List Tr → St
  | o :: os, tr :: trs => stN (st.put o.dst tr.v tr.wr) os trs
  | _, _ => st
theorem stN_snoc : ∀ (os : List Oper) (trs : List Tr) (st : St) (o : Oper) (tr : Tr), os.length = trs.length → stN st (os ++ [o]) (trs ++ [tr]) = (stN st os trs).put o.dst tr.v tr.wr
  | [], [], _, _, _, _ => rfl
  | [], _ :: _, _, _, _, h => by cases h
  | _ :: _, [], _, _, _, h => by cases h
  | o' :: os, tr' :: trs, st, o, tr, h => by
    simp only [List.cons_append, stN]
    exact stN_snoc os trs _ o tr (by simpa using h)
theorem RunOps.all {P : Program} {k : Nat} {ops : Array Oper} {os : List Oper} {st st' : St} {trs : List Tr} (h : RunOps P k ops os st trs st') :
    trs.length = os.length ∧ st' = stN st os trs ∧ ∀ (i : Nat) (o : Oper) (tr : Tr), os[i]? = some o → trs[i]? = some tr → Step P k ops (stN st (os.take i) (trs.take i)) o tr := by
  induction h with
  | nil st => exact ⟨rfl, rfl, fun i o tr h => by simp at h⟩
  | cons h _ ih =>
    obtain ⟨h1, h2, h3⟩ := ih
    refine ⟨by simp [h1], h2, fun i o tr ho htr => ?_⟩
    cases i with
    | zero =>
      simp only [List.getElem?_cons_zero, Option.some.injEq] at ho htr
      subst ho; subst htr
      exact h
    | succ i =>
      simp only [List.getElem?_cons_succ] at ho htr
      exact h3 i o tr ho htr

structure Ini where
  ψ : Ghost
  prot : Nat → Prop
  obj : Objs
  w : World
  rh : RHV ψ prot obj w

structure R (N : Nat) (ini : Ini) (st : St) (a : Act) (w : World) : Prop where
  defers : a.defers = []
  size : a.tmps.size = N
  rel : ∃ ψ prot, Evolve ini.ψ ini.prot ini.obj ini.w ψ prot st.obj w ∧ RH ψ prot st.obj w ∧ (∃ K, ∀ n k, K ≤ k → ψ n k = none) ∧ ∀ t, VRel ψ prot w (st.get t) (a.eval (.tmp t))

def Awp (P : Program) (N : Nat) (ini : Ini) (c : Code) (Q : Exit → St → Prop) (st : St) : Prop :=
  ∀ a w, R N ini st a w → c.wp P (fun e a' w' => ∃ st', R N ini st' a' w' ∧ Q e st') a w
end Go.Proofs.YtboddbheljenhaaGreatDoor
namespace Go.Proofs.YtboddbheljenhaaGreatDoor
open Go.RowKit
section
variable (st0 : St) (trs : List Tr) (ops : Array Oper)
def trAt (i : Nat) : Tr := trs.getD i default
def objL (L : Nat → Bool) : Nat → Objs
  | 0 => st0.obj
  | i + 1 => if L i then updW (objL L i) (trAt trs i).wr else objL L i
def objA : Nat → Objs := objL st0 trs fun _ => true
def getA : Nat → Nat → AVal
  | 0, t => st0.get t
  | i + 1, t => if dstOf ops i = some t then (trAt trs i).v else getA i t
end
section
variable {st0 : St} {trs : List Tr} {ops : Array Oper} {L : Nat → Bool}
theorem stN_at (hl : trs.length = ops.size) : ∀ i, i ≤ ops.size → (stN st0 (ops.toList.take i) (trs.take i)).obj = objA st0 trs i ∧ ∀ t, (stN st0 (ops.toList.take i) (trs.take i)).get t = getA st0 trs ops i t := by
  intro i
  induction i with
  | zero => intro _; exact ⟨rfl, fun _ => rfl⟩
  | succ i ih =>
    intro hi
    obtain ⟨h1, h2⟩ := ih (by omega)
    have ho : ops.toList[i]? = some ops[i] := by simp
    have htr : trs[i]? = some (trAt trs i) := by simp [trAt, List.getD_eq_getElem?_getD, List.getElem?_eq_getElem (show i < trs.length by omega)]
    have e : stN st0 (ops.toList.take (i + 1)) (trs.take (i + 1)) = (stN st0 (ops.toList.take i) (trs.take i)).put ops[i].dst (trAt trs i).v (trAt trs i).wr := by
      rw [List.take_add_one, List.take_add_one, ho, htr]
      exact stN_snoc _ _ _ _ _ (by simp [hl])
    have hd : dstOf ops i = ops[i].dst := by simp [dstOf, Array.getElem?_eq_getElem (show i < ops.size by omega)]
    rw [e]
    refine ⟨by rw [St.obj_put, h1]; rfl, fun t => ?_⟩
    rw [St.get_put, h2 t]
    simp only [getA, hd]

theorem objL_agree {n i : Nat} : ∀ m, (∀ j, j < m → n ∈ (trAt trs j).wr.names → L j = decide (j < i)) → objL st0 trs L m n = objA st0 trs (min m i) n := by
  intro m
  induction m with
  | zero => intro _; simp [objL, objA]
  | succ m ih =>
    intro h
    have ih' := ih fun j hj => h j (by omega)
    by_cases hn : n ∈ (trAt trs m).wr.names
    · have hL := h m (by omega) hn
      by_cases hmi : m < i
      · have e1 : min (m + 1) i = m + 1 := by omega
        have e2 : min m i = m := by omega
        rw [e1]
        rw [e2] at ih'
        simp only [objL, hL, hmi, decide_true, if_true, objA]
        exact updW_congr ih'
      · have e1 : min (m + 1) i = min m i := by omega
        rw [e1, ← ih']
        simp [objL, hL, hmi]
    · have e3 : objL st0 trs L (m + 1) n = objL st0 trs L m n := by
        simp only [objL]
        split
        · exact updW_off hn
        · rfl
      rw [e3, ih']
      by_cases hmi : m < i
      · have e1 : min (m + 1) i = m + 1 := by omega
        have e2 : min m i = m := by omega
        rw [e1, e2]
        simp only [objA, objL, if_true]
        exact (updW_off hn).symm
      · have e1 : min (m + 1) i = min m i := by omega
        rw [e1]

theorem updW_comm {obj : Objs} {a b : Writes} (h : ∀ n ∈ a.names, n ∉ b.names) : updW (updW obj a) b = updW (updW obj b) a := by
  funext n
  by_cases hb : n ∈ b.names
  · have ha : n ∉ a.names := fun ha => h n ha hb
    rw [updW_off ha (obj := updW obj b)]
    exact updW_congr (updW_off ha)
  · rw [updW_off hb (obj := updW obj a)]
    exact updW_congr (updW_off hb).symm

theorem objL_upd {i : Nat} (hi : L i = false) : ∀ m, i < m → (∀ j, i < j → j < m → L j = true → ∀ n ∈ (trAt trs i).wr.names, n ∉ (trAt trs j).wr.names) →
    objL st0 trs (updL L i) m = updW (objL st0 trs L m) (trAt trs i).wr := by
  have same : ∀ m, m ≤ i → objL st0 trs (updL L i) m = objL st0 trs L m := by
    intro m
    induction m with
    | zero => intro _; rfl
    | succ m ih =>
      intro hm
      have hne : m ≠ i := by omega
      simp only [objL, updL, hne, if_false, ih (by omega)]
  intro m
  induction m with
  | zero => intro h; omega
  | succ m ih =>
    intro hm hd
    by_cases hmi : m = i
    · subst hmi
      simp only [objL, updL, if_true, same m (Nat.le_refl _), hi, Bool.false_eq_true, if_false]
    · have him : i < m := by omega
      have ih' := ih him fun j h1 h2 => hd j h1 (by omega)
      simp only [objL, updL, hmi, if_false, ih']
      cases hL : L m with
      | false => simp
      | true =>
        simp only [if_true]
        exact updW_comm (hd m him (by omega) hL)
end

def apartTrs (ops : Array Oper) (trs : List Tr) : Bool :=
  (List.range ops.size).all fun i => (List.range ops.size).all fun j =>
    i == j || pre ops i j || pre ops j i || ((trAt trs j).wr.names.all fun n => !(trAt trs i).touch.contains n)
def madeOnce (trs : List Tr) : Bool :=
  (List.range trs.length).all fun i => (List.range trs.length).all fun j => i == j || ((trAt trs j).made.all fun n => !(trAt trs i).made.contains n)
def dstsIn (N : Nat) (ops : Array Oper) : Bool := ops.all fun o => match o.dst with | some d => decide (d < N) | none => true
def regionChk (N : Nat) (ops : Array Oper) (trs : List Tr) (draw : Bool) : Bool :=
  dstsIn N ops && madeOnce trs && (!draw || (regionOk ops ⟨Array.replicate N undef, []⟩ && apartTrs ops trs))

section
variable {P : Program} {ops : Array Oper} {Q : Exit → Act → World → Prop}
theorem apartTrs_spec {trs : List Tr} (h : apartTrs ops trs = true) {i j : Nat} (hi : i < ops.size) (hj : j < ops.size) (hne : i ≠ j) (h1 : pre ops i j = false) (h2 : pre ops j i = false) :
    ∀ n ∈ (trAt trs j).wr.names, n ∉ (trAt trs i).touch := by
  simp only [apartTrs, List.all_eq_true, List.mem_range, Bool.or_eq_true, beq_iff_eq] at h
  rcases h i hi j hj with ((h | h) | h) | h
  · exact absurd h hne
  · rw [h1] at h; cases h
  · rw [h2] at h; cases h
  · intro n hn
    have := h n hn
    simpa using this
theorem madeOnce_spec {trs : List Tr} (h : madeOnce trs = true) {i j : Nat} (hi : i < trs.length) (hj : j < trs.length) (hne : i ≠ j) : ∀ n ∈ (trAt trs j).made, n ∉ (trAt trs i).made := by
  simp only [madeOnce, List.all_eq_true, List.mem_range, Bool.or_eq_true, beq_iff_eq] at h
  rcases h i hi j hj with h | h
  · exact absurd h hne
  · intro n hn
    have := h n hn
    simpa using this

theorem vrel_operand {ψ : Ghost} {prot : Nat → Prop} {w : World} {st : St} {A : Act} {o : Oper} (h : ∀ t ∈ o.looksAt ops, VRel ψ prot w (st.get t) (A.eval (.tmp t))) : ∀ x ∈ o.op.operands, VRel ψ prot w (st.aop x) (A.eval x) := by
  intro x hx
  cases x with
  | tmp t =>
    refine h t ?_
    simp only [Oper.looksAt, List.mem_append, List.mem_filterMap]
    exact .inl ⟨.tmp t, by simpa using hx, rfl⟩
  | const v => exact .val v
  | global g => exact .any _
  | func f => exact .fn f [] #[] rfl (fun i x v h => by simp at h)

theorem wanted_not {o : Oper} {A : Act} {g : Nat} {b : Bool} {x : Value} {t : Tmp} (hg : o.guard = some (g, b)) (hd : dstOf ops g = some t) (h : A.eval (.tmp t) = x) (hx : x ≠ .bool b) : Region.wanted o (yielded ops A.tmps) = false := by
  cases x with
  | bool c =>
    rw [wanted_is hg hd h]
    have : c ≠ b := fun e => hx (by rw [e])
    simpa using this
  | _ =>
    have hd' : (ops[g]?).bind (·.dst) = some t := hd
    have he : A.tmps.getD t undef = _ := h
    simp only [Region.wanted, hg, yielded, hd', Option.bind_some, beq_eq_false_iff_ne, ne_eq]
    cases ht : A.tmps[t]? with
    | none => simp
    | some z =>
      rw [Array.getD_eq_getD_getElem?, ht, Option.getD_some] at he
      subst he
      simp
theorem step_ok {k : Nat} {st : St} {o : Oper} {tr : Tr} (hs : Step P k ops st o tr) {ψ : Ghost} {prot : Nat → Prop} {obj : Objs} {w : World} {A : Act} (ht : ∀ n ∈ tr.touch, obj n = st.obj n)
    (hv : ∀ t ∈ o.looksAt ops, VRel ψ prot w (st.get t) (A.eval (.tmp t))) (r : RHV ψ prot obj w) (hf : ∀ n ∈ tr.made, ψ n k = none) :
    OpStep P ops o A w fun cv w' => ∃ ψ' prot', Evolve ψ prot obj w ψ' prot' (updW obj tr.wr) w' ∧ RH ψ' prot' (updW obj tr.wr) w' ∧ VRel ψ' prot' w' tr.v cv ∧ ∀ n k', ψ' n k' ≠ none → ψ n k' ≠ none ∨ (k' = k ∧ n ∈ tr.made) := by
  rcases hs with ⟨hg, h⟩ | ⟨g, want, t, b, hg, hd, hb, h⟩
  · have hw : Region.wanted o (yielded ops A.tmps) = true := by simp [Region.wanted, hg]
    simp only [OpStep, hw, if_true]
    exact h.2 ψ prot obj w A.eval ht (vrel_operand hv) r hf
  · have htl : t ∈ o.looksAt ops := by
      simp only [Oper.looksAt, hg, List.mem_append]
      right
      have : (ops[g]?).bind (·.dst) = some t := hd
      simp [this]
    have h1 := hv t htl
    rw [hb] at h1
    have h2 : A.eval (.tmp t) = b := h1.val_eq
    rcases h with ⟨rfl, h⟩ | ⟨hne, ev, ew, em⟩
    · have hw := wanted_is hg hd h2
      simp only [beq_self_eq_true] at hw
      simp only [OpStep, hw, if_true]
      exact h.2 ψ prot obj w A.eval ht (vrel_operand hv) r hf
    · have hw := wanted_not hg hd h2 hne
      simp only [OpStep, hw, Bool.false_eq_true, if_false]
      have e : updW obj tr.wr = obj := by rw [ew]; rfl
      refine ⟨ψ, prot, by rw [e]; exact .refl _ _ _ _, by rw [e]; exact r.toRH, ?_, fun n k' h => .inl h⟩
      rcases ev with ev | ev
      · rw [ev]; exact .any _
      · rw [ev]; exact .val _
theorem Step.named {k : Nat} {st : St} {o : Oper} {tr : Tr} (hs : Step P k ops st o tr) : ∀ n ∈ tr.wr.names, n ∈ tr.touch := by
  rcases hs with ⟨hg, h⟩ | ⟨g, want, t, b, hg, hd, hb, ⟨-, h⟩ | ⟨-, -, ew, -⟩⟩
  · exact h.1
  · exact h.1
  · intro n hn; rw [ew] at hn; simp [Writes.names] at hn

theorem awp_region {N : Nat} {ini : Ini} {id : Nat} {draw : Bool} {Q : Exit → St → Prop} {st : St} (hm : P.follows .mixedOrders = true)
    (h : ∀ k, ∃ trs st', RunOps P k ops ops.toList st trs st' ∧ regionChk N ops trs draw = true ∧ Q .normal st') : Awp P N ini (.region id ops draw) Q st := by
  rintro a w ⟨hdef, hsz, ψ0, prot0, hev, hrh, ⟨K, hK⟩, hvr⟩
  obtain ⟨trs, st', hrun, hchk, hq⟩ := h K
  obtain ⟨hlen, rfl, hstep⟩ := hrun.all
  have hlen' : trs.length = ops.size := by simpa using hlen
  simp only [regionChk, Bool.and_eq_true, Bool.or_eq_true, Bool.not_eq_true'] at hchk
  obtain ⟨⟨hdst, hmade⟩, hdraw⟩ := hchk
  have hdst' : ∀ j d, dstOf ops j = some d → d < a.tmps.size := fun j d hd => by
    unfold dstOf at hd
    cases ho : ops[j]? with
    | none => rw [ho] at hd; cases hd
    | some o =>
      rw [ho] at hd
      have hmem : o ∈ ops := Array.mem_of_getElem? ho
      have h1 := Array.all_eq_true_iff_forall_mem.1 hdst o hmem
      have h2 : o.dst = some d := hd
      rw [h2] at h1
      rw [hsz]
      simpa using h1
  have hst : ∀ i o, ops[i]? = some o → Step P K ops (stN st (ops.toList.take i) (trs.take i)) o (trAt trs i) := fun i o ho => by
    have hi := (Array.getElem?_eq_some_iff.1 ho).1
    refine hstep i o (trAt trs i) (by simpa using ho) ?_
    simp [trAt, List.getD_eq_getElem?_getD, List.getElem?_eq_getElem (show i < trs.length by omega)]
  have hfull : stN st ops.toList trs = stN st (ops.toList.take ops.size) (trs.take ops.size) := by
    rw [List.take_of_length_le (by simp), List.take_of_length_le (by omega)]
  have hend := stN_at (st0 := st) hlen' ops.size (Nat.le_refl _)
  rw [← hfull] at hend
  -- what is known of values, ghost and memory
  let Kn (L : Nat → Bool) (env : Env) (W : World) : Prop := ∃ ψ prot, Evolve ini.ψ ini.prot ini.obj ini.w ψ prot (objL st trs L ops.size) W ∧ RH ψ prot (objL st trs L ops.size) W ∧ (∀ n k', K < k' → ψ n k' = none) ∧
    (∀ n, ψ n K ≠ none → ∃ j, j < ops.size ∧ L j = true ∧ n ∈ (trAt trs j).made) ∧ (∀ t, VRel ψ prot W (st.get t) (a.eval (.tmp t))) ∧ ∀ j, j < ops.size → L j = true → VRel ψ prot W (trAt trs j).v (env j)
  have hobj0 : ∀ m, objL st trs (fun _ => false) m = st.obj := by
    intro m
    induction m with
    | zero => rfl
    | succ m ih => simp only [objL, Bool.false_eq_true, if_false, ih]
  have hstart : ∀ W, W = w ∨ W = w.drew → Kn (fun _ => false) (fun _ => undef) W := by
    rintro W (rfl | rfl)
    · exact ⟨ψ0, prot0, by rw [hobj0]; exact hev, by rw [hobj0]; exact hrh, fun n k' h => hK n k' (by omega), fun n h => absurd (hK n K (Nat.le_refl _)) h, hvr, fun j _ h => by cases h⟩
    · exact ⟨ψ0, prot0, by rw [hobj0]; exact hev.drew, by rw [hobj0]; exact hrh.drew, fun n k' h => hK n k' (by omega), fun n h => absurd (hK n K (Nat.le_refl _)) h, fun t => (hvr t).drew, fun j _ h => by cases h⟩
  -- one operation more
  have hone : ∀ i o, ops[i]? = some o → ∀ L env A W, L i = false → Kn L env W → (∀ n ∈ (trAt trs i).touch, objL st trs L ops.size n = objA st trs i n) →
      (∀ j, i < j → j < ops.size → L j = true → ∀ n ∈ (trAt trs i).wr.names, n ∉ (trAt trs j).wr.names) →
      (∀ ψ prot W, (∀ t, VRel ψ prot W (st.get t) (a.eval (.tmp t))) → (∀ j, j < ops.size → L j = true → VRel ψ prot W (trAt trs j).v (env j)) → ∀ t ∈ o.looksAt ops, VRel ψ prot W (getA st trs ops i t) (A.eval (.tmp t))) →
      OpStep P ops o A W fun v W' => Kn (updL L i) (updE env i v) W' := by
    rintro i o ho L env A W hLi ⟨ψ, prot, h1, h2, h3, h4, h5, h6⟩ htouch hlater hsees
    have hi := (Array.getElem?_eq_some_iff.1 ho).1
    obtain ⟨ho1, ho2⟩ := stN_at (st0 := st) hlen' i (by omega)
    have hnext : ∀ v W', (∃ ψ' prot', Evolve ψ prot (objL st trs L ops.size) W ψ' prot' (updW (objL st trs L ops.size) (trAt trs i).wr) W' ∧ RH ψ' prot' (updW (objL st trs L ops.size) (trAt trs i).wr) W' ∧ VRel ψ' prot' W' (trAt trs i).v v ∧ ∀ n k', ψ' n k' ≠ none → ψ n k' ≠ none ∨ (k' = K ∧ n ∈ (trAt trs i).made)) →
        Kn (updL L i) (updE env i v) W' := by
      rintro v W' ⟨ψ', prot', g1, g2, g3, g4⟩
      have eo : objL st trs (updL L i) ops.size = updW (objL st trs L ops.size) (trAt trs i).wr := objL_upd hLi ops.size hi hlater
      have hkp := g1.keeps h2
      refine ⟨ψ', prot', by rw [eo]; exact h1.trans g1, by rw [eo]; exact g2, fun n k' hk => ?_, fun n hn => ?_, fun t => (h5 t).mono g1.gh hkp, fun j hj hLj => ?_⟩
      · by_cases hx : ψ' n k' = none
        · exact hx
        · rcases g4 n k' hx with hy | ⟨hy, _⟩
          · exact absurd (h3 n k' hk) hy
          · omega
      · rcases g4 n K hn with hy | ⟨_, hy⟩
        · obtain ⟨j, hj1, hj2, hj3⟩ := h4 n hy
          refine ⟨j, hj1, ?_, hj3⟩
          unfold updL; split
          · rfl
          · exact hj2
        · exact ⟨i, hi, by simp [updL], hy⟩
      · by_cases hji : j = i
        · subst hji; simpa [updE] using g3
        · have hLj' : L j = true := by unfold updL at hLj; rwa [if_neg hji] at hLj
          have := (h6 j hj hLj').mono g1.gh hkp
          simpa [updE, hji] using this
    have hgo := step_ok (hst i o ho) (A := A) (by rw [ho1]; exact htouch) (fun t ht => by rw [ho2 t]; exact hsees ψ prot W h5 h6 t ht) ⟨h2, ini.rh.vr.mono (h1.keeps ini.rh.toRH)⟩ (fun n hn => by
      by_cases hx : ψ n K = none
      · exact hx
      · obtain ⟨j, hj1, hj2, hj3⟩ := h4 n hx
        have hji : j ≠ i := fun e => by subst e; rw [hLi] at hj2; cases hj2
        exact absurd hj3 (madeOnce_spec hmade (by omega) (by omega) hji n hn))
    unfold OpStep at hgo ⊢
    split
    · rename_i hw
      rw [if_pos hw] at hgo
      exact specUpon_mono hgo hnext
    · rename_i hw
      rw [if_neg hw] at hgo
      exact hnext _ _ hgo
  -- the end
  have hlast : ∀ env W, Kn (fun j => decide (j < ops.size)) env W → ∀ A : Act, A.defers = [] → A.tmps.size = N → (∀ ψ prot W, (∀ t, VRel ψ prot W (st.get t) (a.eval (.tmp t))) → (∀ j, j < ops.size → VRel ψ prot W (trAt trs j).v (env j)) → ∀ t, VRel ψ prot W (getA st trs ops ops.size t) (A.eval (.tmp t))) →
      ∃ st', R N ini st' A W ∧ Q .normal st' := by
    rintro env W ⟨ψ, prot, g1, g2, g3, g4, g5, g6⟩ A hAd hAs hA
    have eo : objL st trs (fun j => decide (j < ops.size)) ops.size = objA st trs ops.size := by
      funext n
      have := objL_agree (st0 := st) (trs := trs) (L := fun j => decide (j < ops.size)) (n := n) (i := ops.size) ops.size (fun j hj _ => by simp)
      rwa [Nat.min_self] at this
    rw [eo] at g1 g2
    refine ⟨_, ⟨hAd, hAs, ψ, prot, by rw [hend.1]; exact g1, by rw [hend.1]; exact g2, ⟨K + 1, fun n k hk => g3 n k (by omega)⟩, fun t => ?_⟩, hq⟩
    rw [hend.2 t]
    exact hA ψ prot W g5 (fun j hj => g6 j hj (by simpa using hj)) t
  cases draw with
  | false =>
    refine wp_region ?_
    have main : ∀ d i env A W, i + d = ops.size → A.defers = [] → A.tmps.size = N → Kn (fun j => decide (j < i)) env W →
        (∀ ψ prot W, (∀ t, VRel ψ prot W (st.get t) (a.eval (.tmp t))) → (∀ j, j < i → VRel ψ prot W (trAt trs j).v (env j)) → ∀ t, VRel ψ prot W (getA st trs ops i t) (A.eval (.tmp t))) →
        wpOps P ops (fun e a' w' => ∃ st', R N ini st' a' w' ∧ Q e st') (List.range' i d) A W := by
      intro d
      induction d with
      | zero =>
        intro i env A W hid hAd hAs hk hA
        obtain rfl : i = ops.size := by omega
        exact hlast env W hk A hAd hAs hA
      | succ d ih =>
        intro i env A W hid hAd hAs hk hA
        have hi : i < ops.size := by omega
        have ho : ops[i]? = some ops[i] := Array.getElem?_eq_getElem hi
        rw [List.range'_succ, wpOps_cons]
        have hgo := hone i ops[i] ho (fun j => decide (j < i)) env A W (by simp) hk (fun n hn => by
          have := objL_agree (st0 := st) (trs := trs) (L := fun j => decide (j < i)) (n := n) (i := i) ops.size (fun j hj _ => rfl)
          rwa [Nat.min_eq_right (by omega)] at this) (fun j h1 h2 h3 => by simp at h3; omega) (fun ψ prot W h1 h2 t _ => hA ψ prot W h1 (fun j hj => h2 j (by omega) (by simpa using hj)) t)
        have eL : updL (fun j => decide (j < i)) i = fun j => decide (j < i + 1) := by
          funext j
          unfold updL
          split
          · subst_vars; simp
          · by_cases h : j < i
            · simp [h]; omega
            · simp [h]; omega
        have hdi : dstOf ops i = ops[i].dst := by simp [dstOf, ho]
        have hput : ∀ v W', Kn (updL (fun j => decide (j < i)) i) (updE env i v) W' → wpOps P ops (fun e a' w' => ∃ st', R N ini st' a' w' ∧ Q e st') (List.range' (i + 1) d) (A.put ops[i].dst v) W' := by
          intro v W' hk'
          rw [eL] at hk'
          refine ih (i + 1) (updE env i v) _ W' (by omega) ?_ ?_ hk' fun ψ prot W'' h1 h2 t => ?_
          · cases hd : ops[i].dst <;> simp [Act.put, hAd]
          · cases hd : ops[i].dst <;> simp [Act.put, hAs]
          · have hi2 := h2 i (by omega)
            have eEnv : updE env i v i = v := by simp [updE]
            rw [eEnv] at hi2
            simp only [getA, hdi]
            split
            · rename_i e
              have hlt : t < A.tmps.size := by rw [hAs, ← hsz]; exact hdst' i t (hdi.trans e)
              have : (A.put ops[i].dst v).eval (.tmp t) = v := by rw [e]; simp [Act.put, Act.eval, hlt]
              rw [this]
              exact hi2
            · rename_i e
              rw [Act.eval_put (by intro d hd he; injection he with he; subst he; exact e hd)]
              refine hA ψ prot W'' h1 (fun j hj => ?_) t
              have := h2 j (by omega)
              have hji : j ≠ i := by omega
              simpa [updE, hji] using this
        unfold OpStep at hgo
        unfold wpOp
        simp only [ho]
        split
        · rename_i hw
          rw [if_pos hw] at hgo
          exact .inl (specUpon_wp hgo hput)
        · rename_i hw
          rw [if_neg hw] at hgo
          exact hput _ _ hgo
    have := main ops.size 0 (fun _ => undef) a w (by omega) hdef hsz (by simpa using hstart w (.inl rfl)) (fun ψ prot W h1 _ t => h1 t)
    rwa [← List.range_eq_range'] at this
  | true =>
    have hdraw' := hdraw.resolve_left (by simp)
    obtain ⟨hrok, hapart⟩ := hdraw'
    have ok0 := regionOk_spec hrok
    have ok : RegionOk ops a := ⟨ok0.sel, ok0.less, fun i o d ho hd => hdst' i d (by simp [dstOf, ho, hd]), ok0.preLess, ok0.preBy, ok0.preOf, ok0.apart⟩
    refine wp_region_any hm ?_
    have hnil : ∀ n env, actL ops a (fun _ => false) env (down n) = a := by
      intro n env
      induction n with
      | zero => rfl
      | succ n ih => simp only [down, actL, Bool.false_eq_true, if_false, ih]
    have hdefs : ∀ (L : Nat → Bool) env l, (actL ops a L env l).defers = [] := by
      intro L env l
      induction l with
      | nil => exact hdef
      | cons j l ih =>
        simp only [actL]
        split
        · cases dstOf ops j <;> simp [Act.put, ih]
        · exact ih
    have main := region_any (P := P) (Q := fun e a' w' => ∃ st', R N ini st' a' w' ∧ Q e st') ok (Nat.le_refl _) (fun i j hi1 hi2 hj => by omega) Kn ?_ ?_ ops.size (Array.replicate ops.size false) (fun _ => false) (fun _ => undef) w.drew (by simp) (by intro i hi; simp [hi]) (by intro j h; cases h) (by intro i j _ _ h; cases h) (hstart _ (.inr rfl)) ?_
    · rw [hnil, show ops.size + (ops.size - ops.size) = ops.size by omega] at main
      exact main
    · intro i o hi ho L env A W hcl hLm hLi hpre hk hsees
      -- of the others, only those before i stand in its way
      have hun : ∀ j, j < ops.size → j ≠ i → pre ops i j = false → L j = true → pre ops j i = false := fun j hj hji _ hLj => by
        cases hp : pre ops j i with
        | false => rfl
        | true =>
          have := hcl j i hj hi hLj hp
          rw [hLi] at this; cases this
      refine hone i o ho L env A W hLi hk (fun n hn => ?_) (fun j hij hj hLj n hn hn' => ?_) (fun ψ prot W h1 h2 t ht => ?_)
      · have := objL_agree (st0 := st) (trs := trs) (L := L) (n := n) (i := i) ops.size (fun j hj hnj => by
          by_cases hji : j = i
          · subst hji; simp [hLi]
          · by_cases hlt : j < i
            · have e : decide (j < i) = true := by simpa using hlt
              rw [e]
              cases hp : pre ops i j with
              | true => exact hpre j hj hp
              | false =>
                exfalso
                have h2 : pre ops j i = false := by
                  cases hp2 : pre ops j i with
                  | false => rfl
                  | true => have := ok.preLess j i hj hi hp2; omega
                exact apartTrs_spec hapart hi hj (Ne.symm hji) hp h2 n hnj hn
            · have e : decide (j < i) = false := by simpa using hlt
              rw [e]
              cases hLj : L j with
              | false => rfl
              | true =>
                exfalso
                have h1 : pre ops i j = false := by
                  cases hp2 : pre ops i j with
                  | false => rfl
                  | true => have := ok.preLess i j hi hj hp2; omega
                exact apartTrs_spec hapart hi hj (Ne.symm hji) h1 (hun j hj hji h1 hLj) n hnj hn)
        rwa [Nat.min_eq_right (by omega)] at this
      · have h1 : pre ops i j = false := by
          cases hp2 : pre ops i j with
          | false => rfl
          | true => have := ok.preLess i j hi hj hp2; omega
        exact apartTrs_spec hapart hi hj (by omega) h1 (hun j hj (by omega) h1 hLj) n hn' ((hst i o ho).named n hn)
      · rw [hsees t ht]
        have key : ∀ m, m ≤ i → VRel ψ prot W (getA st trs ops m t) (slotL ops a (pre ops i) env t (down m)) := by
          intro m
          induction m with
          | zero => intro _; exact h1 t
          | succ m ih =>
            intro hm'
            simp only [getA, down, slotL]
            by_cases hd : dstOf ops m = some t
            · have hp : pre ops i m = true := by
                cases hp : pre ops i m with
                | true => rfl
                | false =>
                  exfalso
                  have h3 : pre ops m i = false := by
                    cases hp2 : pre ops m i with
                    | false => rfl
                    | true => have := ok.preLess m i (by omega) hi hp2; omega
                  exact (ok.apart i m o t ho (by omega) (by omega) hp h3 hd).1 ht
              simp only [hd, hp, if_true, Bool.true_and, beq_self_eq_true]
              exact h2 m (by omega) (hpre m (by omega) hp)
            · have : (dstOf ops m == some t) = false := by simpa using hd
              simp only [hd, if_false, this, Bool.and_false, Bool.false_eq_true]
              exact ih (by omega)
        exact key i (Nat.le_refl _)
    · intro L env W hL hk
      have eL : L = fun j => L j := rfl
      rw [Nat.sub_self]
      refine ⟨?_, ?_⟩
      · cases hr : Region.ready .any ops (headArr ops.size ops.size) with
        | nil => rfl
        | cons i l =>
          have hi : i ∈ Region.ready .any ops (headArr ops.size ops.size) := by rw [hr]; exact List.mem_cons_self
          obtain ⟨hun, o, ho, -⟩ := mem_ready.1 hi
          have hlt := (Array.getElem?_eq_some_iff.1 ho).1
          simp [headArr, hlt] at hun
      · have hk' : Kn (fun j => decide (j < ops.size)) env W := by
          obtain ⟨ψ, prot, g1, g2, g3, g4, g5, g6⟩ := hk
          have eo : objL st trs L ops.size = objL st trs (fun j => decide (j < ops.size)) ops.size := by
            funext n
            have e1 := objL_agree (st0 := st) (trs := trs) (L := L) (n := n) (i := ops.size) ops.size (fun j hj _ => by simp [hL j hj, hj])
            have e2 := objL_agree (st0 := st) (trs := trs) (L := fun j => decide (j < ops.size)) (n := n) (i := ops.size) ops.size (fun j hj _ => rfl)
            rw [e1, e2]
          exact ⟨ψ, prot, by rw [← eo]; exact g1, by rw [← eo]; exact g2, g3, fun n hn => let ⟨j, h1, _, h3⟩ := g4 n hn; ⟨j, h1, by simpa using h1, h3⟩, g5, fun j hj _ => g6 j hj (hL j hj)⟩
        refine hlast env W hk' _ (hdefs _ _ _) ?_ fun ψ prot W h1 h2 t => ?_
        · rw [(eval_actL (L := fun _ => true) (env := env) (t := 0) hdst' _).1, hsz]
        · rw [(eval_actL (L := fun _ => true) (env := env) (t := t) hdst' _).2]
          have key : ∀ m, m ≤ ops.size → VRel ψ prot W (getA st trs ops m t) (slotL ops a (fun _ => true) env t (down m)) := by
            intro m
            induction m with
            | zero => intro _; exact h1 t
            | succ m ih =>
              intro hm'
              simp only [getA, down, slotL]
              by_cases hd : dstOf ops m = some t
              · simp only [hd, if_true, Bool.true_and, beq_self_eq_true]
                exact h2 m (by omega)
              · have : (dstOf ops m == some t) = false := by simpa using hd
                simp only [hd, if_false, this, Bool.and_false, Bool.false_eq_true]
                exact ih (by omega)
          exact key _ (Nat.le_refl _)
    · have : ∀ n, (down n).countP (fun _ => !false) = n := by
        intro n
        induction n with
        | zero => rfl
        | succ n ih => simp [down, List.countP_cons] at ih ⊢; omega
      exact this _
end
end Go.Proofs.YtboddbheljenhaaGreatDoor
namespace Go.Proofs.YtboddbheljenhaaGreatDoor
open Go.RowKit
section
variable {P : Program} {N : Nat} {ini : Ini} {Q Q' : Exit → St → Prop} {st : St}

theorem Awp.mono {c : Code} (h : Awp P N ini c Q st) (hq : ∀ e st', Q e st' → Q' e st') : Awp P N ini c Q' st :=
  fun a w r => wp_mono (h a w r) fun e a' w' ⟨st', r', q⟩ => ⟨st', r', hq e st' q⟩
def andThen (next : St → Prop) (Q : Exit → St → Prop) : Exit → St → Prop
  | .normal, st => next st
  | e, st => Q e st
theorem awp_seq {x y : Code} (h : Awp P N ini x (andThen (Awp P N ini y Q) Q) st) : Awp P N ini (.seq x y) Q st := fun a w r =>
  wp_seq (wp_mono (h a w r) fun e a' w' ⟨st', r', q⟩ => by
    cases e
    case normal => exact q a' w' r'
    all_goals exact ⟨st', r', q⟩)
theorem awp_skip (h : Q .normal st) : Awp P N ini .skip Q st := fun _ _ r => wp_skip ⟨st, r, h⟩
theorem awp_label {l : Nat} (h : Q .normal st) : Awp P N ini (.label l) Q st := fun _ _ r => wp_label ⟨st, r, h⟩
theorem awp_ret (h : Q .ret st) : Awp P N ini .ret Q st := fun _ _ r => wp_ret ⟨st, r, h⟩
theorem awp_exit {id : Nat} (h : Q (.exit id) st) : Awp P N ini (.exit id) Q st := fun _ _ r => wp_exit ⟨st, r, h⟩
theorem awp_goto {id : Nat} (h : Q (.goto id) st) : Awp P N ini (.goto id) Q st := fun _ _ r => wp_goto ⟨st, r, h⟩
theorem R.val {a : Act} {w : World} {c : Operand} {v : Value} (r : R N ini st a w) (h : st.aop c = .val v) : a.eval c = v := by
  obtain ⟨ψ, prot, -, -, -, hv⟩ := r.rel
  cases c with
  | tmp t =>
    have h1 := hv t
    have h2 : st.get t = .val v := h
    rw [h2] at h1
    exact h1.val_eq
  | const u => injection h
  | global g => cases h
  | func f => cases h
theorem awp_cond {c : Operand} {x y : Code} (b : Bool) (hc : st.aop c = .val (.bool b)) (h1 : b = true → Awp P N ini x Q st) (h2 : b = false → Awp P N ini y Q st) : Awp P N ini (.cond c x y) Q st := fun a w r =>
  wp_cond_split (r.val hc) (fun h => h1 h a w r) fun h => h2 h a w r
theorem awp_true {c : Operand} {x y : Code} (hc : st.aop c = .val (.bool true)) (h1 : Awp P N ini x Q st) : Awp P N ini (.cond c x y) Q st := awp_cond true hc (fun _ => h1) (fun h => by cases h)
theorem awp_false {c : Operand} {x y : Code} (hc : st.aop c = .val (.bool false)) (h1 : Awp P N ini y Q st) : Awp P N ini (.cond c x y) Q st := awp_cond false hc (fun h => by cases h) (fun _ => h1)
def inBlock (id : Nat) (Q : Exit → St → Prop) : Exit → St → Prop
  | .exit id', st => if id' = id then Q .normal st else Q (.exit id') st
  | e, st => Q e st
theorem awp_block {id : Nat} {c : Code} (h : Awp P N ini c (inBlock id Q) st) : Awp P N ini (.block id c) Q st := fun a w r =>
  wp_block (wp_mono (h a w r) fun e a' w' ⟨st', r', q⟩ => by
    cases e
    case exit id' =>
      simp only [inBlock] at q
      simp only [Exit.inBlock]
      split at q
      · rename_i e; rw [if_pos e]; exact ⟨st', r', q⟩
      · rename_i e; rw [if_neg e]; exact ⟨st', r', q⟩
    all_goals exact ⟨st', r', q⟩)
theorem awp_loop {c : Code} (I : Nat → St → Prop) (n0 : Nat) (h0 : I n0 st) (round : ∀ n st, I n st → Awp P N ini c (andThen (fun st' => ∃ n', n' < n ∧ I n' st') Q) st) : Awp P N ini (.loop c) Q st := by
  intro a w r b k cs
  have key : ∀ n st, I n st → ∀ a w, R N ini st a w → ∃ e a' w', (∃ st', R N ini st' a' w' ∧ Q e st') ∧ Arrives P (lone (b.at a (.code c :: .inLoop c :: k)) cs w) b k cs e a' w' := by
    intro n
    induction n using Nat.strongRecOn with
    | _ n ih =>
      intro st hI a w r
      obtain ⟨e, a₁, w₁, ⟨st₁, r₁, hq⟩, harr⟩ := round n st hI a w r b (.inLoop c :: k) cs
      cases e with
      | normal =>
        obtain ⟨n₁, hlt, hI₁⟩ := hq
        obtain ⟨e₂, a₂, w₂, hq₂, harr₂⟩ := ih n₁ hlt st₁ hI₁ a₁ w₁ r₁
        exact ⟨e₂, a₂, w₂, hq₂, .of_steps (Steps.trans harr (.one step_inLoop)) harr₂⟩
      | exit id => exact ⟨_, a₁, w₁, ⟨st₁, r₁, hq⟩, .pass (x := .inLoop c) rfl (fun _ _ => .inl (by simp)) harr⟩
      | goto l => exact ⟨_, a₁, w₁, ⟨st₁, r₁, hq⟩, .pass (x := .inLoop c) rfl (fun _ _ => .inl (by simp)) harr⟩
      | ret => exact ⟨_, a₁, w₁, ⟨st₁, r₁, hq⟩, .pass (x := .inLoop c) rfl (fun _ _ => .inl (by simp)) harr⟩
      | panic ch => exact ⟨_, a₁, w₁, ⟨st₁, r₁, hq⟩, .pass (x := .inLoop c) rfl (fun _ _ => .inl (by simp)) harr⟩
      | outgrown => exact ⟨_, a₁, w₁, ⟨st₁, r₁, hq⟩, .pass (x := .inLoop c) rfl (fun _ _ => .inl (by simp)) harr⟩
  obtain ⟨e, a', w', hq, harr⟩ := key n0 st h0 a w r
  exact ⟨e, a', w', hq, .of_steps (.one step_loop) harr⟩
theorem awp_weaken {c : Code} {st' : St} (hr : ∀ a w, R N ini st a w → R N ini st' a w) (h : Awp P N ini c Q st') : Awp P N ini c Q st := fun a w r => h a w (hr a w r)

def St.leB (st st' : St) : Prop := (∀ t, st'.get t = .any ∨ st'.get t = st.get t) ∧ ∀ n, st'.obj n = none ∨ st'.obj n = st.obj n
theorem unowned_less {ψ : Ghost} {obj obj' : Objs} {w : World} {b : Nat} (h : ∀ n, obj' n = none ∨ obj' n = obj n) (hu : unowned ψ obj w b) : unowned ψ obj' w b :=
  ⟨hu.1, fun n k o loc h1 h2 => by
    rcases h n with e | e
    · rw [e] at h1; cases h1
    · rw [e] at h1; exact hu.2 n k o loc h1 h2⟩
theorem R.less {st' : St} {a : Act} {w : World} (hl : st.leB st') (r : R N ini st a w) : R N ini st' a w := by
  obtain ⟨hd, hs, ψ, prot, h1, h2, h3, h4⟩ := r
  have live : ∀ n k o, st'.obj n = some (k, o) → st.obj n = some (k, o) := fun n k o h => by
    rcases hl.2 n with e | e
    · rw [e] at h; cases h
    · rwa [e] at h
  refine ⟨hd, hs, ψ, prot, ⟨h1.os, h1.tape, h1.output, h1.size, h1.gh, h1.pr, fun b hb => ⟨unowned_less hl.2 (h1.un b hb).1, (h1.un b hb).2⟩, h1.new⟩, ⟨fun n k o h => h2.live n k o (live n k o h), fun n n' k k' o o' l l' g1 g2 => h2.inj n n' k k' o o' l l' (live _ _ _ g1) (live _ _ _ g2), fun b hb => unowned_less hl.2 (h2.pr b hb)⟩, h3, fun t => ?_⟩
  rcases hl.1 t with e | e
  · rw [e]; exact .any _
  · rw [e]; exact h4 t
end

mutual
def AVal.pure : AVal → Bool
  | .any => true
  | .val _ => true
  | .ro es => AVal.pures es
  | .own _ _ _ => false
  | .ptr _ _ _ => false
  | .sub _ _ _ _ _ => false
  | .win _ _ _ => false
  | .wptr _ _ _ => false
  | .mp _ _ => false
  | .rref cs => AVal.pures cs
  | .agg cs => AVal.pures cs
  | .tuple cs => AVal.pures cs
  | .fn _ cs => AVal.pures cs
  | .ifc _ => true
def AVal.pures : List AVal → Bool
  | [] => true
  | x :: xs => x.pure && AVal.pures xs
end
theorem AVal.pures_mem : ∀ {xs : List AVal}, AVal.pures xs = true → ∀ x ∈ xs, x.pure = true
  | [], _, _, h => by cases h
  | y :: ys, h, x, hx => by
    simp only [AVal.pures, Bool.and_eq_true] at h
    rcases List.mem_cons.1 hx with rfl | hx
    · exact h.1
    · exact AVal.pures_mem h.2 x hx
theorem AVal.pures_of : ∀ {xs : List AVal}, (∀ x ∈ xs, x.pure = true) → AVal.pures xs = true
  | [], _ => rfl
  | y :: ys, h => by
    simp only [AVal.pures, Bool.and_eq_true]
    exact ⟨h y List.mem_cons_self, AVal.pures_of fun x hx => h x (List.mem_cons_of_mem _ hx)⟩
theorem AVal.pure_flat {x y : AVal} (h : x.pure = true) (hy : y ∈ x.flat) : y.pure = true := by
  unfold AVal.flat at hy
  split at hy
  · exact AVal.pures_mem h y hy
  · simp only [List.mem_map] at hy
    obtain ⟨v, -, rfl⟩ := hy
    rfl
  · simp only [List.mem_singleton] at hy
    subst hy; exact h
theorem AVal.pures_flat {es : List AVal} (h : AVal.pures es = true) : AVal.pures (es.flatMap AVal.flat) = true :=
  AVal.pures_of fun x hx => by
    obtain ⟨y, hy, hxy⟩ := List.mem_flatMap.1 hx
    exact AVal.pure_flat (AVal.pures_mem h y hy) hxy
theorem VRel.pure {ψ ψ' : Ghost} {prot : Nat → Prop} {w : World} {x : AVal} {v : Value} (h : VRel ψ prot w x v) : x.pure = true → VRel ψ' prot w x v := by
  induction h with
  | any v => intro _; exact .any v
  | val v => intro _; exact .val v
  | roNil a cap h => intro _; exact .roNil a cap h
  | ro es vs b o cap hcp hb hl hc _ ih => intro hp; exact .ro es vs b o cap hcp hb hl hc fun i x v h1 h2 => ih i x v h1 h2 (AVal.pures_mem (AVal.pures_flat hp) x (List.mem_of_getElem? h1))
  | own n k len loc h => intro hp; cases hp
  | ptr n k off b cap h => intro hp; cases hp
  | sub n k off len sz b cap h => intro hp; cases hp
  | win n k len b o cap hc h => intro hp; cases hp
  | wptr n k i b o cap hc h => intro hp; cases hp
  | mp n k b cap h => intro hp; cases hp
  | rref cs vs b o hb hl hc _ ih => intro hp; exact .rref cs vs b o hb hl hc fun i x v h1 h2 => ih i x v h1 h2 (AVal.pures_mem hp x (List.mem_of_getElem? h1))
  | agg cs vs hl _ ih => intro hp; exact .agg cs vs hl fun i x v h1 h2 => ih i x v h1 h2 (AVal.pures_mem hp x (List.mem_of_getElem? h1))
  | tuple cs vs hl _ ih => intro hp; exact .tuple cs vs hl fun i x v h1 h2 => ih i x v h1 h2 (AVal.pures_mem hp x (List.mem_of_getElem? h1))
  | fn f cs vs hl _ ih => intro hp; exact .fn f cs vs hl fun i x v h1 h2 => ih i x v h1 h2 (AVal.pures_mem hp x (List.mem_of_getElem? h1))
  | ifc t v => intro _; exact .ifc t v
theorem VRels.pure {ψ ψ' : Ghost} {prot : Nat → Prop} {w : World} {xs : List AVal} {vs : List Value} (h : VRels ψ prot w xs vs) (hp : AVal.pures xs = true) : VRels ψ' prot w xs vs :=
  ⟨h.1, fun i x v h1 h2 => (h.2 i x v h1 h2).pure (AVal.pures_mem hp x (List.mem_of_getElem? h1))⟩
def AObj.pure : AObj → Bool
  | .row _ _ es => AVal.pures es
  | .box _ cs => AVal.pures cs
  | .que _ _ es => AVal.pures es
  | .rowF _ => true
  | .mapI _ => true
  | .rowS _ _ _ _ _ _ => false
  | .mapV _ l => AVal.pures (l.map (·.2))
  | .arr _ cs => AVal.pures cs
theorem lookup_pures {l : List (Int × AVal)} (h : AVal.pures (l.map (·.2)) = true) {x : Int} {a : AVal} (hx : l.lookup x = some a) : a.pure = true := by
  refine AVal.pures_mem h a ?_
  induction l with
  | nil => cases hx
  | cons y l ih =>
    obtain ⟨z, b⟩ := y
    rw [List.lookup_cons] at hx
    cases q : x == z with
    | true => rw [q] at hx; injection hx with hx; subst hx; exact List.mem_cons_self
    | false =>
      rw [q] at hx
      refine List.mem_cons_of_mem _ (ih ?_ hx)
      have := h
      simp only [List.map_cons, AVal.pures, Bool.and_eq_true] at this
      exact this.2
theorem ORel.pure {ψ ψ' : Ghost} {prot : Nat → Prop} {w : World} {loc : Loc} : ∀ {o : AObj}, ORel ψ prot w loc o → o.pure = true → ORel ψ' prot w loc o
  | .row _ _ _, ⟨xs, h, h2⟩, hp => ⟨xs, h, h2.pure (AVal.pures_flat hp)⟩
  | .box _ _, ⟨b, vs, h0, h, h2⟩, hp => ⟨b, vs, h0, h, h2.pure hp⟩
  | .que _ _ _, ⟨b, o, cap, cur, xs, h0, h1, h, h3, h4, h5, h6, h7⟩, hp => ⟨b, o, cap, cur, xs, h0, h1, h, h3, h4, h5, h6, h7.pure (AVal.pures_flat hp)⟩
  | .mapI _, h, _ => h
  | .rowS _ _ _ _ _ _, _, hp => by cases hp
  | .mapV _ l, ⟨b, es, c, h0, h, h1, h2⟩, hp => ⟨b, es, c, h0, h, h1, fun x => (h2 x).imp fun a v ha q => q.pure (lookup_pures hp ha)⟩
  | .arr _ _, ⟨b, vs, h0, h, h2⟩, hp => ⟨b, vs, h0, h, h2.pure hp⟩
  | .rowF _, h, _ => h

inductive Ren (g : List (Nat × Nat × Nat × Nat)) : AVal → AVal → Prop where
  | pure (x : AVal) (h : x.pure = true) : Ren g x x
  | own (n k n' k' len len' : Nat) (hl : len = len') (h : (n, k, n', k') ∈ g) : Ren g (.own n k len) (.own n' k' len')
  | ptr (n k n' k' off : Nat) (h : (n, k, n', k') ∈ g) : Ren g (.ptr n k off) (.ptr n' k' off)
  | agg (xs ys : List AVal) (hl : xs.length = ys.length) (h : ∀ (i : Nat) (x y : AVal), xs[i]? = some x → ys[i]? = some y → Ren g x y) : Ren g (.agg xs) (.agg ys)
  | mp (n k n' k' : Nat) (h : (n, k, n', k') ∈ g) : Ren g (.mp n k) (.mp n' k')
  | fn (f : FuncId) (xs ys : List AVal) (hl : xs.length = ys.length) (h : ∀ (i : Nat) (x y : AVal), xs[i]? = some x → ys[i]? = some y → Ren g x y) : Ren g (.fn f xs) (.fn f ys)
  | rref (xs ys : List AVal) (hl : xs.length = ys.length) (h : ∀ (i : Nat) (x y : AVal), xs[i]? = some x → ys[i]? = some y → Ren g x y) : Ren g (.rref xs) (.rref ys)
inductive Rens (g : List (Nat × Nat × Nat × Nat)) : List AVal → List AVal → Prop where
  | nil : Rens g [] []
  | cons {x y : AVal} {xs ys : List AVal} (h : Ren g x y) (t : Rens g xs ys) : Rens g (x :: xs) (y :: ys)
inductive RenT (g : List (Nat × Nat × Nat × Nat)) : AVal → AVal → Prop where
  | one {x y : AVal} (h : Ren g x y) : RenT g x y
  | tuple {xs ys : List AVal} (h : Rens g xs ys) : RenT g (.tuple xs) (.tuple ys)
section
variable {g : List (Nat × Nat × Nat × Nat)} {ψ ψ' : Ghost} {prot : Nat → Prop} {w : World}
theorem Ren.rel {x y : AVal} {v : Value} (h : Ren g x y) (hg : ∀ n k n' k', (n, k, n', k') ∈ g → ψ' n' k' = ψ n k) (hv : VRel ψ prot w x v) : VRel ψ' prot w y v := by
  induction h generalizing v with
  | pure _ hp => exact hv.pure hp
  | own n k n' k' len len' he hm => subst he; cases hv with | own _ _ _ loc hl => exact .own n' k' len loc ((hg _ _ _ _ hm).trans hl)
  | ptr n k n' k' off hm => cases hv with | ptr _ _ _ b cap hl => exact .ptr n' k' off b cap ((hg _ _ _ _ hm).trans hl)
  | agg xs ys hl _ ih =>
    cases hv with
    | agg _ vs hvl hvs =>
      refine .agg ys vs (hvl.trans hl) fun i y u hy hu => ?_
      have hi : i < xs.length := by rw [hl]; exact (List.getElem?_eq_some_iff.1 hy).1
      exact ih i xs[i] y (List.getElem?_eq_getElem hi) hy (hvs i xs[i] u (List.getElem?_eq_getElem hi) hu)
  | mp n k n' k' hm => cases hv with | mp _ _ b cap hl => exact .mp n' k' b cap ((hg _ _ _ _ hm).trans hl)
  | fn f xs ys hl _ ih =>
    cases hv with
    | fn _ _ vs hvl hvs =>
      refine .fn f ys vs (hvl.trans hl) fun i y u hy hu => ?_
      have hi : i < xs.length := by rw [hl]; exact (List.getElem?_eq_some_iff.1 hy).1
      exact ih i xs[i] y (List.getElem?_eq_getElem hi) hy (hvs i xs[i] u (List.getElem?_eq_getElem hi) hu)
  | rref xs ys hl _ ih =>
    cases hv with
    | rref _ vs b o hp hvl hc hvs =>
      refine .rref ys vs b o hp (hvl.trans hl) hc fun i y u hy hu => ?_
      have hi : i < xs.length := by rw [hl]; exact (List.getElem?_eq_some_iff.1 hy).1
      exact ih i xs[i] y (List.getElem?_eq_getElem hi) hy (hvs i xs[i] u (List.getElem?_eq_getElem hi) hu)
theorem Rens.rel (hg : ∀ n k n' k', (n, k, n', k') ∈ g → ψ' n' k' = ψ n k) : ∀ {xs ys : List AVal}, Rens g xs ys → xs.length = ys.length ∧ ∀ (i : Nat) (y : AVal), ys[i]? = some y → ∃ x, xs[i]? = some x ∧ ∀ v, VRel ψ prot w x v → VRel ψ' prot w y v := by
  intro xs ys h
  induction h with
  | nil => exact ⟨rfl, fun i y h => by simp at h⟩
  | cons h _ ih =>
    refine ⟨by simp [ih.1], fun i y hy => ?_⟩
    cases i with
    | zero =>
      simp only [List.getElem?_cons_zero, Option.some.injEq] at hy
      subst hy
      exact ⟨_, rfl, fun v hv => h.rel hg hv⟩
    | succ i =>
      simp only [List.getElem?_cons_succ] at hy
      exact ih.2 i y hy
theorem Ren.aggs {xs ys : List AVal} (h : Rens g xs ys) : Ren g (.agg xs) (.agg ys) := by
  have key : xs.length = ys.length ∧ ∀ (i : Nat) (x y : AVal), xs[i]? = some x → ys[i]? = some y → Ren g x y := by
    induction h with
    | nil => exact ⟨rfl, fun i x y h => by simp at h⟩
    | cons h _ ih =>
      refine ⟨by simp [ih.1], fun i x y hx hy => ?_⟩
      cases i with
      | zero =>
        simp only [List.getElem?_cons_zero, Option.some.injEq] at hx hy
        subst hx; subst hy
        exact h
      | succ i =>
        simp only [List.getElem?_cons_succ] at hx hy
        exact ih.2 i x y hx hy
  exact .agg xs ys key.1 key.2
theorem RenT.rel {x y : AVal} {v : Value} (h : RenT g x y) (hg : ∀ n k n' k', (n, k, n', k') ∈ g → ψ' n' k' = ψ n k) (hv : VRel ψ prot w x v) : VRel ψ' prot w y v := by
  cases h with
  | one h => exact h.rel hg hv
  | tuple h =>
    cases hv with
    | tuple _ vs hl hv =>
      obtain ⟨e, hr⟩ := h.rel (prot := prot) (w := w) hg
      refine .tuple _ vs (hl.trans e) fun i y v hy hvi => ?_
      obtain ⟨x, hx, hxy⟩ := hr i y hy
      exact hxy v (hv i x v hx hvi)
end

def Spec (P : Program) (f : FuncId) (args : List AVal) (objs : Writes) (v : AVal) (objs' : Writes) : Prop :=
  ∀ (ψ : Ghost) (prot : Nat → Prop) (w : World) (cargs : Array Value), (∀ n k, ψ n k ≠ none → k = 0 ∧ n < 1000) → RHV ψ prot (updW (fun _ => none) objs) w → cargs.size = args.length → (∀ (i : Nat) (x : AVal) (u : Value), args[i]? = some x → cargs[i]? = some u → VRel ψ prot w x u) →
    Calls P f cargs w fun e w' => ∃ cv ψ' prot', e = .returned cv ∧ Evolve ψ prot (updW (fun _ => none) objs) w ψ' prot' (updW (fun _ => none) objs') w' ∧ RH ψ' prot' (updW (fun _ => none) objs') w' ∧ VRel ψ' prot' w' v cv

def ResOk (P : Program) (fn : Func) (st : St) (v : AVal) : Prop :=
  ∀ (ψ : Ghost) (prot : Nat → Prop) (w : World) (tmps : Array Value), RH ψ prot st.obj w → (∀ t, VRel ψ prot w (st.get t) (tmps.getD t undef)) → ∃ cv, (results fn tmps).run P w = .ok cv w ∧ VRel ψ prot w v cv
theorem res_none {P : Program} {fn : Func} {st : St} (hr : fn.results = #[]) : ResOk P fn st (.tuple []) := fun ψ prot w tmps _ _ => ⟨.tuple #[], by simp [results, hr, go_sem], .tuple [] #[] rfl fun i x v h => by simp at h⟩
theorem res_one {P : Program} {fn : Func} {st : St} {a : Nat} {x : AVal} (hr : fn.results = #[.tmp a]) (ha : st.get a = x) : ResOk P fn st x := fun ψ prot w tmps _ h => ⟨tmps.getD a undef, by simp [results, hr, go_sem], ha ▸ h a⟩
theorem res_two {P : Program} {fn : Func} {st : St} {a b : Nat} {x y : AVal} (hr : fn.results = #[.tmp a, .tmp b]) (ha : st.get a = x) (hb : st.get b = y) : ResOk P fn st (.tuple [x, y]) := fun ψ prot w tmps _ h =>
  ⟨.tuple #[tmps.getD a undef, tmps.getD b undef], by simp [results, hr, go_sem], .tuple _ _ rfl fun i z v h1 h2 => by
    match i with
    | 0 => simp at h1 h2; subst h1; rw [← h2, ← ha]; simpa using h a
    | 1 => simp at h1 h2; subst h1; rw [← h2, ← hb]; simpa using h b
    | i + 2 => simp at h1⟩
theorem res_three {P : Program} {fn : Func} {st : St} {a b c : Nat} {x y z : AVal} (hr : fn.results = #[.tmp a, .tmp b, .tmp c]) (ha : st.get a = x) (hb : st.get b = y) (hc : st.get c = z) : ResOk P fn st (.tuple [x, y, z]) := fun ψ prot w tmps _ h =>
  ⟨.tuple #[tmps.getD a undef, tmps.getD b undef, tmps.getD c undef], by simp [results, hr, go_sem], .tuple _ _ rfl fun i z v h1 h2 => by
    match i with
    | 0 => simp at h1 h2; subst h1; rw [← h2, ← ha]; simpa using h a
    | 1 => simp at h1 h2; subst h1; rw [← h2, ← hb]; simpa using h b
    | 2 => simp at h1 h2; subst h1; rw [← h2, ← hc]; simpa using h c
    | i + 3 => simp at h1⟩

section lookups
variable {β : Type}
theorem lookup_mem : ∀ {l : List (Nat × β)} {n : Nat} {x : β}, l.lookup n = some x → (n, x) ∈ l
  | [], _, _, h => by cases h
  | (m, y) :: l, n, x, h => by
    rw [List.lookup_cons] at h
    cases hn : n == m with
    | true => rw [hn] at h; simp at h hn; subst h; subst hn; exact List.mem_cons_self
    | false => rw [hn] at h; exact List.mem_cons_of_mem _ (lookup_mem h)
theorem lookup_of_mem : ∀ {l : List (Nat × β)} {n : Nat} {x : β}, (l.map (·.1)).Nodup → (n, x) ∈ l → l.lookup n = some x
  | [], _, _, _, h => by cases h
  | (m, y) :: l, n, x, hd, h => by
    simp only [List.map_cons, List.nodup_cons] at hd
    rw [List.lookup_cons]
    rcases List.mem_cons.1 h with h' | h'
    · injection h' with h1 h2; subst h1; subst h2; simp
    · have : (n == m) = false := by
        simp only [beq_eq_false_iff_ne, ne_eq]
        intro e; subst e
        exact hd.1 (List.mem_map.2 ⟨(n, x), h', rfl⟩)
      rw [this]
      exact lookup_of_mem hd.2 h'
end lookups

def startSt (args : List AVal) (objs : Writes) : St := ⟨(List.range args.length).zip args, objs⟩
theorem lookup_zip : ∀ (args : List AVal) (s t : Nat), ((List.range' s args.length).zip args).lookup t = if s ≤ t then args[t - s]? else none
  | [], s, t => by simp
  | x :: xs, s, t => by
    simp only [List.length_cons, List.range'_succ, List.zip_cons_cons, List.lookup_cons]
    by_cases h : t = s
    · subst h; simp
    · have e : (t == s) = false := by simpa using h
      rw [e]
      have := lookup_zip xs (s + 1) t
      simp only [this]
      by_cases h2 : s + 1 ≤ t
      · have e2 : t - s = (t - (s + 1)) + 1 := by omega
        rw [if_pos h2, if_pos (by omega), e2, List.getElem?_cons_succ]
      · rw [if_neg h2, if_neg (by omega)]
theorem startSt_get (args : List AVal) (objs : Writes) (t : Nat) : (startSt args objs).get t = (args[t]?).getD .any := by
  have := lookup_zip args 0 t
  simp only [Nat.zero_le, if_true, Nat.sub_zero] at this
  simp only [St.get, startSt, List.range_eq_range', this]
  cases args[t]? <;> rfl

def Ends (P : Program) (fn : Func) (v : AVal) (objs' : Writes) (e : Exit) (st : St) : Prop :=
  (e = .ret ∨ e = .normal) ∧ ∃ (v0 : AVal) (keep : List (Nat × Nat × Nat)), ResOk P fn st v0 ∧ RenT (keep.map fun x => (x.2.1, x.2.2, x.1, 0)) v0 v ∧
    (∀ n, updW (fun _ => none) objs' n = (match keep.lookup n with | some (m, _) => (st.obj m).map fun y => (0, y.2) | none => none)) ∧ (∀ x ∈ keep, ∃ o, st.obj x.2.1 = some (x.2.2, o) ∧ o.pure = true) ∧ (keep.map (·.2.1)).Nodup ∧ (keep.map (·.1)).Nodup ∧ ∀ x ∈ keep, 1000 ≤ x.1 ∨ (x.2.1 = x.1 ∧ x.2.2 = 0)

theorem nodup_inj {α β : Type} {f : α → β} : ∀ {l : List α}, (l.map f).Nodup → ∀ x ∈ l, ∀ y ∈ l, f x = f y → x = y
  | [], _, x, h, _, _, _ => by cases h
  | a :: l, hd, x, hx, y, hy, e => by
    simp only [List.map_cons, List.nodup_cons] at hd
    rcases List.mem_cons.1 hx with rfl | hx' <;> rcases List.mem_cons.1 hy with rfl | hy'
    · rfl
    · exact absurd (List.mem_map.2 ⟨y, hy', e.symm⟩) hd.1
    · exact absurd (List.mem_map.2 ⟨x, hx', e⟩) hd.1
    · exact nodup_inj hd.2 x hx' y hy' e

theorem spec_of_awp {P : Program} {f : FuncId} {fn : Func} {c : Code} {args : List AVal} {objs objs' : Writes} {v : AVal} (hf : P.funcs[f]? = some fn) (hb : fn.body = some c) (hn : args.length ≤ fn.ntmps)
    (h : ∀ ini, Awp P fn.ntmps ini c (Ends P fn v objs') (startSt args objs)) : Spec P f args objs v objs' := by
  intro ψ prot w cargs hψ hrh hsz hargs
  refine calls_of_wp hf hb (wp_mono (h ⟨ψ, prot, updW (fun _ => none) objs, w, hrh⟩ _ w ⟨rfl, by simp [hsz]; omega, ψ, prot, .refl _ _ _ _, hrh.toRH, ⟨1, fun n k hk => ?_⟩, fun t => ?_⟩) ?_)
  · by_cases hx : ψ n k = none
    · exact hx
    · have := (hψ n k hx).1; omega
  · rw [startSt_get]
    cases ha : args[t]? with
    | none => exact .any _
    | some x =>
      have ht : t < args.length := (List.getElem?_eq_some_iff.1 ha).1
      have hc : cargs[t]? = some cargs[t] := Array.getElem?_eq_getElem (by omega)
      have := hargs t x _ ha hc
      simp only [Act.eval, Option.getD_some]
      rw [Array.getD_eq_getD_getElem?, Array.getElem?_append_left (by omega), hc]
      exact this
  · rintro e a w' ⟨st, ⟨hd, hs, ψ', prot', g1, g2, g3, g4⟩, he, v0, keep, hres, hren, hobj, hkeep, hnd, hnd1, hid⟩
    obtain ⟨cv, hcv, hv⟩ := hres ψ' prot' w' a.tmps g2 g4
    have fin : a.defers = [] ∧ ∃ u, (results fn a.tmps).run P w' = .ok u w' ∧ ∃ cv ψ' prot', Ending.returned u = .returned cv ∧ Evolve ψ prot (updW (fun _ => none) objs) w ψ' prot' (updW (fun _ => none) objs') w' ∧ RH ψ' prot' (updW (fun _ => none) objs') w' ∧ VRel ψ' prot' w' v cv := by
      let ψ2 : Ghost := fun n k => if k = 0 then (match keep.lookup n with | some (m, j) => ψ' m j | none => ψ n k) else ψ n k
      have hψ2 : ∀ n m j, (n, m, j) ∈ keep → ψ2 n 0 = ψ' m j := fun n m j hm => by
        show (if (0 : Nat) = 0 then (match keep.lookup n with | some (m, j) => ψ' m j | none => ψ n 0) else ψ n 0) = _
        rw [if_pos rfl, lookup_of_mem (x := (m, j)) hnd1 hm]
      have hlive : ∀ n k o, updW (fun _ => none) objs' n = some (k, o) → ∃ m j, k = 0 ∧ (n, m, j) ∈ keep ∧ st.obj m = some (j, o) ∧ o.pure = true := fun n k o hx => by
        rw [hobj n] at hx
        cases hl : keep.lookup n with
        | none => rw [hl] at hx; cases hx
        | some mj =>
          obtain ⟨m, j⟩ := mj
          rw [hl] at hx
          have hm := lookup_mem hl
          obtain ⟨o', ho', hp⟩ := hkeep _ hm
          simp only [ho', Option.map_some, Option.some.injEq, Prod.mk.injEq] at hx
          obtain ⟨rfl, rfl⟩ := hx
          exact ⟨m, j, rfl, hm, ho', hp⟩
      have hun : ∀ b, unowned ψ' st.obj w' b → unowned ψ2 (updW (fun _ => none) objs') w' b := fun b hb => ⟨hb.1, fun n k o loc h1 h2 => by
        obtain ⟨m, j, rfl, h3, h4, _⟩ := hlive n k o h1
        rw [hψ2 n m j h3] at h2
        exact hb.2 m j o loc h4 h2⟩
      refine ⟨hd, cv, hcv, cv, ψ2, prot', rfl, ⟨g1.os, g1.tape, g1.output, g1.size, fun n k loc hl => ?_, g1.pr, fun b hb => ⟨hun b (g1.un b hb).1, (g1.un b hb).2⟩, g1.new⟩, ⟨fun n k o hx => ?_, fun n n' k k' o o' l l' hx hx' hne h1 h2 => ?_, fun b hb => hun b (g2.pr b hb)⟩, hren.rel (fun n k n' k' hm => ?_) hv⟩
      · obtain ⟨rfl, hlt⟩ := hψ n k (by rw [hl]; simp)
        show (if (0 : Nat) = 0 then (match keep.lookup n with | some (m, j) => ψ' m j | none => ψ n 0) else ψ n 0) = _
        rw [if_pos rfl]
        cases hk : keep.lookup n with
        | none => exact hl
        | some mj =>
          obtain ⟨m, j⟩ := mj
          rcases hid _ (lookup_mem hk) with e | ⟨e1, e2⟩
          · simp at e; omega
          · simp at e1 e2; subst e1; subst e2; exact g1.gh _ _ _ hl
      · obtain ⟨m, j, rfl, h3, h4, hp⟩ := hlive n k o hx
        obtain ⟨loc, h5, h6⟩ := g2.live m j o h4
        exact ⟨loc, (hψ2 n m j h3).trans h5, h6.pure hp⟩
      · obtain ⟨m, j, rfl, h3, h4, _⟩ := hlive n k o hx
        obtain ⟨m', j', rfl, h3', h4', _⟩ := hlive n' k' o' hx'
        rw [hψ2 n m j h3] at h1
        rw [hψ2 n' m' j' h3'] at h2
        refine g2.inj m m' j j' o o' l l' h4 h4' (fun e => hne ?_) h1 h2
        have := nodup_inj hnd _ h3 _ h3' e
        injection this
      · simp only [List.mem_map, Prod.mk.injEq] at hm
        obtain ⟨⟨a1, a2, a3⟩, hx, rfl, rfl, rfl, rfl⟩ := hm
        exact hψ2 a1 a2 a3 hx
    rcases he with rfl | rfl
    · exact fin
    · exact fin
end Go.Proofs.YtboddbheljenhaaGreatDoor
namespace Go.Proofs.YtboddbheljenhaaGreatDoor
open Go.RowKit

structure Bind where
  p : Nat
  n : Nat
  k : Nat
  o : AObj
  o' : Option AObj
section
variable (bs : List Bind)
def bindG : List (Nat × Nat × Nat × Nat) := bs.map fun b => (b.n, b.k, b.p, 0)
def bindIn : Writes := bs.map fun b => (b.p, some (0, b.o))
def bindOut (fr : Option AObj) : Writes := bs.map (fun b => (b.p, b.o'.map fun o => (0, o))) ++ fr.toList.map fun o => (1000, some (0, o))
def bindBack (fr : Option AObj) (d k : Nat) : List (Nat × Nat × Nat × Nat) := bs.map (fun b => (b.p, 0, b.n, b.k)) ++ fr.toList.map fun _ => (1000, 0, d, k)
def bindWr (fr : Option AObj) (d k : Nat) : Writes := bs.map (fun b => (b.n, b.o'.map fun o => (b.k, o))) ++ fr.toList.map fun o => (d, some (k, o))
def bindTouch (fr : Option AObj) (d : Nat) : List Nat := bs.map (·.n) ++ fr.toList.map fun _ => d
def bindOk (fr : Option AObj) (d : Nat) : Bool :=
  decide (bs.map (·.n)).Nodup && decide (bs.map (·.p)).Nodup && bs.all (fun b => decide (b.p < 1000) && b.o.pure && (match b.o' with | some o => o.pure | none => true) && (fr.isNone || b.n != d)) && (match fr with | some o => o.pure | none => true)
end

theorem run_call {P : Program} {o : Oper} {x : Operand} {xs : Array Operand} {ats : Array TypeId} {f : FuncId} {fn : Func} {c : Code} {caps : Array Value} {ρ : Operand → Value} {w : World} (ho : o.op = .call { callee := .value x, args := xs, argTypes := ats })
    (hx : ρ x = .func (.func f) #[] caps) (hf : P.funcs[f]? = some fn) (hn : (fn.name == "runtime.NumGoroutine") = false) (hb : fn.body = some c) :
    (execOp ρ o).run P w = .ok (.enter f (xs.map ρ ++ caps)) w := by
  have hn' : fn.name ≠ "runtime.NumGoroutine" := by simpa using hn
  simp [execOp, ho, resolve, hx, Deferred.ofValue, invoke, callFunc, program, Sem.run, hf, hn', hb, go_sem]

theorem mem_lookup_map {β γ : Type} {f : β → γ} : ∀ {l : List (Nat × β)} {n : Nat}, (l.map fun x => (x.1, f x.2)).lookup n = (l.lookup n).map f
  | [], _ => rfl
  | (m, y) :: l, n => by
    simp only [List.map_cons, List.lookup_cons]
    cases n == m with
    | true => rfl
    | false => exact mem_lookup_map (l := l)

theorem VRel.fn_inv {ψ : Ghost} {prot : Nat → Prop} {w : World} {f : FuncId} {cs : List AVal} {v : Value} (h : VRel ψ prot w (.fn f cs) v) :
    ∃ vs, v = .func (.func f) #[] vs ∧ vs.size = cs.length ∧ ∀ (i : Nat) (x : AVal) (u : Value), cs[i]? = some x → vs[i]? = some u → VRel ψ prot w x u := by
  cases h with
  | fn _ _ vs h1 h2 => exact ⟨vs, rfl, h1, h2⟩

section
variable {P : Program} {k : Nat} {st : St} {o : Oper}
theorem opok_call {x : Operand} {xs : Array Operand} {ats : Array TypeId} {f : FuncId} {fn : Func} {c : Code} {caps cargs : List AVal} (bs : List Bind) (fr : Option AObj) {v0 v : AVal} {d : Nat} {objs' : Writes}
    (ho : o.op = .call { callee := .value x, args := xs, argTypes := ats }) (hx : st.aop x = .fn f caps) (hf : P.funcs[f]? = some fn) (hn : (fn.name == "runtime.NumGoroutine") = false) (hb : fn.body = some c)
    (hr : Rens (bindG bs) (xs.toList.map st.aop ++ caps) cargs) (hspec : Spec P f cargs (bindIn bs) v0 objs') (hout : objs' = bindOut bs fr) (hv : RenT (bindBack bs fr d k) v0 v)
    (hobj : ∀ b ∈ bs, st.obj b.n = some (b.k, b.o)) (hok : bindOk bs fr d = true) :
    OpOk P k st o ⟨v, bindWr bs fr d k, bindTouch bs fr d, fr.toList.map fun _ => d⟩ := by
  subst hout
  simp only [bindOk, Bool.and_eq_true, decide_eq_true_eq, List.all_eq_true, Bool.or_eq_true, bne_iff_ne, ne_eq] at hok
  obtain ⟨⟨⟨hnn, hnp⟩, hall⟩, hfr⟩ := hok
  refine ⟨?_, fun ψ prot obj w ρ ht hx' r hfresh => ?_⟩
  · intro n hn
    simp only [Writes.names, bindWr, bindTouch, List.map_append, List.map_map, List.mem_append, List.mem_map] at hn ⊢
    rcases hn with ⟨b, hb, rfl⟩ | ⟨b, hb, rfl⟩
    · exact .inl ⟨b, hb, rfl⟩
    · exact .inr ⟨b, hb, rfl⟩
  have hobj' : ∀ b ∈ bs, obj b.n = some (b.k, b.o) := fun b hb => by
    rw [ht b.n (by simp only [bindTouch, List.mem_append, List.mem_map]; exact .inl ⟨b, hb, rfl⟩)]
    exact hobj b hb
  -- the function's ghost
  let tab : List (Nat × Nat × Nat) := bs.map fun b => (b.p, b.n, b.k)
  have htab : (tab.map (·.1)).Nodup := by simpa [tab, Function.comp_def] using hnp
  let ψc : Ghost := fun n j => if j = 0 then (match tab.lookup n with | some (m, i) => ψ m i | none => none) else none
  have hψc : ∀ b ∈ bs, ψc b.p 0 = ψ b.n b.k := fun b hb => by
    have := lookup_of_mem htab (n := b.p) (x := (b.n, b.k)) (List.mem_map.2 ⟨b, hb, rfl⟩)
    simp only [ψc, if_true, this]
  have hψc' : ∀ n j, ψc n j ≠ none → ∃ b ∈ bs, n = b.p ∧ j = 0 := fun n j hne => by
    simp only [ψc] at hne
    split at hne
    · rename_i e
      cases hl : tab.lookup n with
      | none => rw [hl] at hne; exact absurd rfl hne
      | some mi =>
        have := lookup_mem hl
        obtain ⟨b, hb, e2⟩ := List.mem_map.1 this
        injection e2 with e3 _
        exact ⟨b, hb, e3.symm, e⟩
    · exact absurd rfl hne
  have hin : ∀ n j ob, updW (fun _ => none) (bindIn bs) n = some (j, ob) → ∃ b ∈ bs, n = b.p ∧ j = 0 ∧ ob = b.o := fun n j ob h => by
    simp only [updW] at h
    cases hl : (bindIn bs).lookup n with
    | none => rw [hl] at h; cases h
    | some y =>
      rw [hl] at h
      simp only at h
      subst h
      obtain ⟨b, hb, e2⟩ := List.mem_map.1 (lookup_mem hl)
      simp only [Prod.mk.injEq, Option.some.injEq] at e2
      exact ⟨b, hb, e2.1.symm, e2.2.1.symm, e2.2.2.symm⟩
  have hunc : ∀ b, unowned ψ obj w b → unowned ψc (updW (fun _ => none) (bindIn bs)) w b := fun b hb => ⟨hb.1, fun n j ob loc h1 h2 => by
    obtain ⟨bb, hbb, rfl, rfl, rfl⟩ := hin n j ob h1
    rw [hψc bb hbb] at h2
    exact hb.2 bb.n bb.k bb.o loc (hobj' bb hbb) h2⟩
  have bp_inj : ∀ b ∈ bs, ∀ b' ∈ bs, b.p = b'.p → b = b' := fun b hb b' hb' e => nodup_inj hnp b hb b' hb' e
  have bn_inj : ∀ b ∈ bs, ∀ b' ∈ bs, b.n = b'.n → b = b' := fun b hb b' hb' e => nodup_inj hnn b hb b' hb' e
  have hrc : RH ψc prot (updW (fun _ => none) (bindIn bs)) w := by
    refine ⟨fun n j ob h => ?_, fun n n' j j' ob ob' l l' h h' hne h1 h2 => ?_, fun b hb => hunc b (r.pr b hb)⟩
    · obtain ⟨b, hb, rfl, rfl, rfl⟩ := hin n j ob h
      obtain ⟨loc, g1, g2⟩ := r.live _ _ _ (hobj' b hb)
      exact ⟨loc, (hψc b hb).trans g1, g2.pure (hall b hb).1.1.2⟩
    · obtain ⟨b, hb, rfl, rfl, rfl⟩ := hin n j ob h
      obtain ⟨b', hb', rfl, rfl, rfl⟩ := hin n' j' ob' h'
      rw [hψc b hb] at h1
      rw [hψc b' hb'] at h2
      exact r.inj _ _ _ _ _ _ _ _ (hobj' b hb) (hobj' b' hb') (fun e => hne (by rw [bn_inj b hb b' hb' e])) h1 h2
  -- the callee and its arguments
  obtain ⟨vs, hfx, hcl, hcv⟩ := (hx ▸ hx' x (by simp [ho, Op.operands, Call.operands]) : VRel ψ prot w (.fn f caps) (ρ x)).fn_inv
  rw [run_call ho hfx hf hn hb]
  simp only [specUpon]
  have hav : ∀ (i : Nat) (a : AVal) (u : Value), (xs.toList.map st.aop ++ caps)[i]? = some a → (xs.map ρ ++ vs)[i]? = some u → VRel ψ prot w a u := fun i a u h1 h2 => by
    by_cases hi : i < xs.size
    · rw [List.getElem?_append_left (by simpa using hi)] at h1
      rw [Array.getElem?_append_left (by simpa using hi)] at h2
      simp only [List.getElem?_map, Array.getElem?_toList, Array.getElem?_map, Array.getElem?_eq_getElem hi, Option.map_some, Option.some.injEq] at h1 h2
      subst h1; subst h2
      exact hx' _ (by simp [ho, Op.operands, Call.operands])
    · rw [List.getElem?_append_right (by simpa using hi)] at h1
      rw [Array.getElem?_append_right (by simpa using hi)] at h2
      exact hcv _ a u (by simpa using h1) (by simpa using h2)
  have hrel := hr.rel (ψ := ψ) (ψ' := ψc) (prot := prot) (w := w) (fun n j n' j' hm => by
    obtain ⟨b, hb, e⟩ := List.mem_map.1 hm
    simp only [Prod.mk.injEq] at e
    obtain ⟨rfl, rfl, rfl, rfl⟩ := e
    exact hψc b hb)
  have hcall := hspec ψc prot w (xs.map ρ ++ vs) (fun n j hne => by obtain ⟨b, hb, rfl, rfl⟩ := hψc' n j hne; exact ⟨rfl, by simpa using (hall b hb).1.1.1⟩) ⟨hrc, r.vr⟩ (by rw [← hrel.1]; simp [hcl]) (fun i y u h1 h2 => by
    obtain ⟨a, h3, h4⟩ := hrel.2 i y h1
    exact h4 u (hav i a u h3 h2))
  refine Calls.mono hcall ?_
  rintro e w' ⟨cv, ψ1, prot', rfl, g1, g2, g3⟩
  refine ⟨cv, rfl, ?_⟩
  -- the ghost behind the call
  let ψ' : Ghost := fun n j => if fr.isSome = true ∧ n = d ∧ j = k then ψ1 1000 0 else ψ n j
  have hψold : ∀ n j loc, ψ n j = some loc → ψ' n j = some loc := fun n j loc h => by
    simp only [ψ']
    split
    · rename_i e
      obtain ⟨e1, rfl, rfl⟩ := e
      have := hfresh n (by cases hq : fr with | none => rw [hq] at e1; cases e1 | some y => simp)
      rw [this] at h; cases h
    · exact h
  have hψb : ∀ b ∈ bs, ψ' b.n b.k = ψ b.n b.k := fun b hb => by
    obtain ⟨loc, h1, -⟩ := r.live _ _ _ (hobj' b hb)
    rw [h1]; exact hψold _ _ _ h1
  have hψ1 : ∀ b ∈ bs, ψ1 b.p 0 = ψ b.n b.k := fun b hb => by
    obtain ⟨loc, h1, -⟩ := r.live _ _ _ (hobj' b hb)
    rw [h1]; exact g1.gh _ _ _ ((hψc b hb).trans h1)
  have hoc : ((bindOut bs fr).map (·.1)).Nodup := by
    simp only [bindOut, List.map_append, List.map_map]
    refine List.nodup_append.2 ⟨by simpa [Function.comp_def] using hnp, by cases fr <;> simp, fun a ha b hb e => ?_⟩
    subst e
    obtain ⟨bb, hbb, rfl⟩ := List.mem_map.1 ha
    have h1 := (hall bb hbb).1.1.1
    cases fr with
    | none => simp at hb
    | some y => simp at hb; omega
  have hwc : ((bindWr bs fr d k).map (·.1)).Nodup := by
    simp only [bindWr, List.map_append, List.map_map]
    refine List.nodup_append.2 ⟨by simpa [Function.comp_def] using hnn, by cases fr <;> simp, fun a ha b hb e => ?_⟩
    subst e
    obtain ⟨bb, hbb, rfl⟩ := List.mem_map.1 ha
    have h1 := (hall bb hbb).2
    cases fr with
    | none => simp at hb
    | some y => simp at hb h1; exact h1 hb
  have hout : ∀ n j ob, updW (fun _ => none) (bindOut bs fr) n = some (j, ob) → j = 0 ∧ ((∃ b ∈ bs, n = b.p ∧ b.o' = some ob) ∨ (n = 1000 ∧ fr = some ob)) := fun n j ob h => by
    simp only [updW] at h
    cases hl : (bindOut bs fr).lookup n with
    | none => rw [hl] at h; cases h
    | some y =>
      rw [hl] at h
      simp only at h
      subst h
      rcases List.mem_append.1 (lookup_mem hl) with hm | hm
      · obtain ⟨b, hb, e2⟩ := List.mem_map.1 hm
        simp only [Prod.mk.injEq, Option.map_eq_some_iff] at e2
        obtain ⟨rfl, oo, h1, h2, h3⟩ := e2
        exact ⟨h2.symm, .inl ⟨b, hb, rfl, by rw [h1, h3]⟩⟩
      · obtain ⟨oo, hm1, e2⟩ := List.mem_map.1 hm
        simp only [Prod.mk.injEq, Option.some.injEq] at e2
        obtain ⟨h0, h1, h2⟩ := e2
        refine ⟨h1.symm, .inr ⟨h0.symm, ?_⟩⟩
        rw [← h2]; simpa using hm1
  have houtB : ∀ b ∈ bs, ∀ ob, b.o' = some ob → updW (fun _ => none) (bindOut bs fr) b.p = some (0, ob) := fun b hb ob h => by
    have : (b.p, b.o'.map fun o => (0, o)) ∈ bindOut bs fr := List.mem_append.2 (.inl (List.mem_map.2 ⟨b, hb, rfl⟩))
    simp only [updW, lookup_of_mem hoc this, h, Option.map_some]
  have houtF : ∀ ob, fr = some ob → updW (fun _ => none) (bindOut bs fr) 1000 = some (0, ob) := fun ob h => by
    have : (1000, some (0, ob)) ∈ bindOut bs fr := List.mem_append.2 (.inr (List.mem_map.2 ⟨ob, by simp [h], rfl⟩))
    simp only [updW, lookup_of_mem hoc this]
  -- what lives behind the call
  have hnew : ∀ n j ob, updW obj (bindWr bs fr d k) n = some (j, ob) → (∃ p, updW (fun _ => none) (bindOut bs fr) p = some (0, ob) ∧ ψ' n j = ψ1 p 0 ∧ ob.pure = true ∧ ((∃ b ∈ bs, n = b.n ∧ p = b.p) ∨ (n = d ∧ p = 1000 ∧ fr.isSome = true))) ∨ ((∀ b ∈ bs, n ≠ b.n) ∧ obj n = some (j, ob)) := fun n j ob h => by
    simp only [updW] at h
    cases hl : (bindWr bs fr d k).lookup n with
    | none =>
      rw [hl] at h
      refine .inr ⟨fun b hb e => ?_, h⟩
      have : (b.n, b.o'.map fun o => (b.k, o)) ∈ bindWr bs fr d k := List.mem_append.2 (.inl (List.mem_map.2 ⟨b, hb, rfl⟩))
      rw [← e] at this
      rw [lookup_of_mem hwc this] at hl
      cases hl
    | some y =>
      rw [hl] at h
      simp only at h
      subst h
      left
      rcases List.mem_append.1 (lookup_mem hl) with hm | hm
      · obtain ⟨b, hb, e2⟩ := List.mem_map.1 hm
        simp only [Prod.mk.injEq, Option.map_eq_some_iff] at e2
        obtain ⟨rfl, oo, h1, h2, h3⟩ := e2
        subst h2; subst h3
        refine ⟨b.p, houtB b hb _ h1, (hψb b hb).trans (hψ1 b hb).symm, ?_, .inl ⟨b, hb, rfl, rfl⟩⟩
        have := (hall b hb).1.2
        rw [h1] at this; exact this
      · obtain ⟨oo, hm1, e2⟩ := List.mem_map.1 hm
        simp only [Prod.mk.injEq, Option.some.injEq] at e2
        obtain ⟨h0, h1, h2⟩ := e2
        subst h0; subst h1; subst h2
        have hfo : fr = some oo := by simpa using hm1
        refine ⟨1000, houtF oo hfo, by simp [ψ', hfo], ?_, .inr ⟨rfl, rfl, by simp [hfo]⟩⟩
        rw [hfo] at hfr; exact hfr
  have hother : ∀ n j ob loc b, (∀ bb ∈ bs, n ≠ bb.n) → obj n = some (j, ob) → ψ n j = some loc → loc.block = some b → unowned ψc (updW (fun _ => none) (bindIn bs)) w b := fun n j ob loc b h1 h2 h3 h4 => by
    obtain ⟨loc', h5, h6⟩ := r.live n j ob h2
    rw [h3] at h5; injection h5 with h5; subst h5
    refine ⟨h6.inside b h4, fun n' j' ob' loc' h7 h8 => ?_⟩
    obtain ⟨bb, hbb, rfl, rfl, rfl⟩ := hin n' j' ob' h7
    rw [hψc bb hbb] at h8
    exact fun h9 => r.inj n bb.n j bb.k ob bb.o loc loc' h2 (hobj' bb hbb) (h1 bb hbb) h3 h8 b h4 h9
  have hψ'old : ∀ n j ob, obj n = some (j, ob) → ∃ loc, ψ n j = some loc ∧ ψ' n j = some loc := fun n j ob h => by
    obtain ⟨loc, h1, _⟩ := r.live n j ob h
    exact ⟨loc, h1, hψold _ _ _ h1⟩
  have hkeep : ∀ b, prot b → prot' b ∧ w'.heap[b]? = w.heap[b]? := fun b hb => ⟨g1.pr b hb, (g1.un b (hrc.pr b hb)).2⟩
  refine ⟨ψ', prot', ⟨g1.os, g1.tape, g1.output, g1.size, hψold, g1.pr, fun b hb => ⟨⟨Nat.lt_of_lt_of_le hb.1 g1.size, fun n j ob loc h1 h2 h3 => ?_⟩, (g1.un b (hunc b hb)).2⟩, fun b hb => (g1.new b hb).imp id fun h h' => h (hunc b h')⟩, ⟨fun n j ob h => ?_, fun n n' j j' ob ob' l l' h h' hne h1 h2 b h3 h4 => ?_, fun b hb => ⟨(g2.pr b hb).1, fun n j ob loc h1 h2 h3 => ?_⟩⟩, ?_, fun n j hne => ?_⟩
  · -- what nobody owned before
    rcases hnew n j ob h1 with ⟨p, h4, h5, _, _⟩ | ⟨_, h5⟩
    · rw [h5] at h2
      exact (g1.un b (hunc b hb)).1.2 p 0 ob loc h4 h2 h3
    · obtain ⟨loc', h6, h7⟩ := hψ'old n j ob h5
      rw [h7] at h2; injection h2 with h2; subst h2
      exact hb.2 n j ob _ h5 h6 h3
  · rcases hnew n j ob h with ⟨p, h4, h5, h6, _⟩ | ⟨h4, h5⟩
    · obtain ⟨loc, h7, h8⟩ := g2.live p 0 ob h4
      exact ⟨loc, h5.trans h7, h8.pure h6⟩
    · obtain ⟨loc, h6, h7⟩ := hψ'old n j ob h5
      obtain ⟨loc', h8, h9⟩ := r.live n j ob h5
      rw [h6] at h8; injection h8 with h8; subst h8
      exact ⟨loc, h7, h9.mono hψold hkeep fun b hb => (g1.un b (hother n j ob loc b h4 h5 h6 hb)).2⟩
  · rcases hnew n j ob h with ⟨p, e4, e5, _, e7⟩ | ⟨e4, e5⟩ <;> rcases hnew n' j' ob' h' with ⟨p', e4', e5', _, e7'⟩ | ⟨e4', e5'⟩
    · rw [e5] at h1
      rw [e5'] at h2
      refine g2.inj p p' 0 0 ob ob' l l' e4 e4' (fun e => hne ?_) h1 h2 b h3 h4
      subst e
      rcases e7 with ⟨b1, hb1, rfl, hp1⟩ | ⟨rfl, hp1, _⟩ <;> rcases e7' with ⟨b2, hb2, rfl, hp2⟩ | ⟨rfl, hp2, _⟩
      · rw [bp_inj b1 hb1 b2 hb2 (hp1.symm.trans hp2)]
      · have := (hall b1 hb1).1.1.1; omega
      · have := (hall b2 hb2).1.1.1; omega
      · rfl
    · rw [e5] at h1
      obtain ⟨loc, h6, h7⟩ := hψ'old n' j' ob' e5'
      rw [h7] at h2; injection h2 with h2; subst h2
      exact (g1.un b (hother n' j' ob' _ b e4' e5' h6 h4)).1.2 p 0 ob l e4 h1 h3
    · rw [e5'] at h2
      obtain ⟨loc, h6, h7⟩ := hψ'old n j ob e5
      rw [h7] at h1; injection h1 with h1; subst h1
      exact (g1.un b (hother n j ob _ b e4 e5 h6 h3)).1.2 p' 0 ob' l' e4' h2 h4
    · obtain ⟨loc, h6, h7⟩ := hψ'old n j ob e5
      rw [h7] at h1; injection h1 with h1; subst h1
      obtain ⟨loc', h6', h7'⟩ := hψ'old n' j' ob' e5'
      rw [h7'] at h2; injection h2 with h2; subst h2
      exact r.inj n n' j j' ob ob' _ _ e5 e5' hne h6 h6' b h3 h4
  · rcases hnew n j ob h1 with ⟨p, h4, h5, _, _⟩ | ⟨h4, h5⟩
    · rw [h5] at h2
      exact (g2.pr b hb).2 p 0 ob loc h4 h2 h3
    · obtain ⟨loc', h6, h7⟩ := hψ'old n j ob h5
      rw [h7] at h2; injection h2 with h2; subst h2
      rcases g1.new b hb with h8 | h8
      · exact (r.pr b h8).2 n j ob _ h5 h6 h3
      · exact h8 (hother n j ob _ b h4 h5 h6 h3)
  · refine hv.rel (fun n j n' j' hm => ?_) g3
    rcases List.mem_append.1 hm with hm | hm
    · obtain ⟨b, hb, e2⟩ := List.mem_map.1 hm
      simp only [Prod.mk.injEq] at e2
      obtain ⟨rfl, rfl, rfl, rfl⟩ := e2
      exact (hψb b hb).trans (hψ1 b hb).symm
    · obtain ⟨oo, hm1, e2⟩ := List.mem_map.1 hm
      simp only [Prod.mk.injEq] at e2
      obtain ⟨rfl, rfl, rfl, rfl⟩ := e2
      have hfo : fr = some oo := by simpa using hm1
      simp [ψ', hfo]
  · by_cases e : fr.isSome = true ∧ n = d ∧ j = k
    · obtain ⟨e1, rfl, rfl⟩ := e
      refine .inr ⟨rfl, ?_⟩
      cases hq : fr with
      | none => rw [hq] at e1; cases e1
      | some y => simp
    · left
      simp only [ψ', e, if_false] at hne
      exact hne
end
end Go.Proofs.YtboddbheljenhaaGreatDoor
namespace Go.Proofs.YtboddbheljenhaaGreatDoor
open Go.RowKit

section
variable {ψ : Ghost} {prot : Nat → Prop} {obj : Objs} {w w' : World}
theorem evolve_make (r : RH ψ prot obj w) (kl : List Nat) (d k : Nat) (loc : Loc) (ob : AObj) (hf : ψ d k = none) (h1 : w'.os = w.os) (h2 : w'.tape = w.tape) (h3 : w'.output = w.output) (h4 : w.heap.size ≤ w'.heap.size)
    (hu : ∀ b, b < w.heap.size → (∀ n j o l, n ∈ kl → obj n = some (j, o) → ψ n j = some l → l.block ≠ some b) → w'.heap[b]? = w.heap[b]?)
    (hl : ∀ b, loc.block = some b → w.heap.size ≤ b ∨ ∃ n ∈ kl, ∃ j o l, obj n = some (j, o) ∧ ψ n j = some l ∧ l.block = some b)
    (ho : ∀ ψ' : Ghost, (∀ n j l, ψ n j = some l → ψ' n j = some l) → ORel ψ' prot w' loc ob) :
    ∃ ψ' : Ghost, Evolve ψ prot obj w ψ' prot (updW obj ((d, some (k, ob)) :: kl.map fun n => (n, none))) w' ∧ RH ψ' prot (updW obj ((d, some (k, ob)) :: kl.map fun n => (n, none))) w' ∧ ψ' d k = some loc ∧
      (∀ n j l, ψ n j = some l → ψ' n j = some l) ∧ ∀ n k', ψ' n k' ≠ none → ψ n k' ≠ none ∨ (k' = k ∧ n = d) := by
  let ψ' : Ghost := fun n j => if n = d ∧ j = k then some loc else ψ n j
  have hdk : ψ' d k = some loc := by simp [ψ']
  have hold : ∀ n j l, ψ n j = some l → ψ' n j = some l := fun n j l h => by
    simp only [ψ']
    split
    · rename_i e; obtain ⟨rfl, rfl⟩ := e; rw [hf] at h; cases h
    · exact h
  have hobj : ∀ n j o, updW obj ((d, some (k, ob)) :: kl.map fun n => (n, none)) n = some (j, o) → (n = d ∧ j = k ∧ o = ob) ∨ (n ≠ d ∧ n ∉ kl ∧ obj n = some (j, o)) := fun n j o h => by
    simp only [updW, List.lookup_cons] at h
    by_cases hn : n = d
    · subst hn
      simp only [beq_self_eq_true, Option.some.injEq, Prod.mk.injEq] at h
      exact .inl ⟨rfl, h.1.symm, h.2.symm⟩
    · have e : (n == d) = false := by simpa using hn
      rw [e] at h
      simp only at h
      by_cases hk : n ∈ kl
      · cases hlk : (kl.map fun n => ((n, none) : Nat × Option (Nat × AObj))).lookup n with
        | none =>
          exfalso
          have hnm : n ∈ Writes.names (kl.map fun n => (n, none)) := by simp [Writes.names, Function.comp_def, hk]
          have : ∀ (l : List Nat), n ∈ l → (l.map fun n => ((n, none) : Nat × Option (Nat × AObj))).lookup n = some none := by
            intro l
            induction l with
            | nil => intro h; cases h
            | cons m l ih =>
              intro h
              simp only [List.map_cons, List.lookup_cons]
              by_cases hm : n = m
              · subst hm; simp
              · have e2 : (n == m) = false := by simpa using hm
                rw [e2]
                exact ih ((List.mem_cons.1 h).resolve_left hm)
          rw [this kl hk] at hlk; cases hlk
        | some y =>
          rw [hlk] at h
          simp only at h
          have := lookup_mem hlk
          obtain ⟨m, _, e2⟩ := List.mem_map.1 this
          simp only [Prod.mk.injEq] at e2
          rw [← e2.2] at h; cases h
      · rw [lookup_none_of_not_mem (by simpa [Writes.names, Function.comp_def] using hk)] at h
        exact .inr ⟨hn, hk, h⟩
  have hblk : ∀ n j o l b, n ∉ kl → obj n = some (j, o) → ψ n j = some l → l.block = some b → w'.heap[b]? = w.heap[b]? := fun n j o l b hk h g hb => by
    obtain ⟨l', g1, g2⟩ := r.live n j o h
    rw [g] at g1; injection g1 with g1; subst g1
    refine hu b (g2.inside b hb) fun m i oo ll hm h5 h6 h7 => ?_
    exact r.inj n m j i o oo l ll h h5 (fun e => hk (e ▸ hm)) g h6 b hb h7
  have hun : ∀ b, unowned ψ obj w b → w'.heap[b]? = w.heap[b]? := fun b hb => hu b hb.1 fun n j o l _ h g => hb.2 n j o l h g
  have hfree : ∀ b, unowned ψ obj w b → loc.block ≠ some b := fun b hb e => by
    rcases hl b e with h | ⟨n, _, j, o, l, g1, g2, g3⟩
    · have := hb.1; omega
    · exact hb.2 n j o l g1 g2 g3
  have hkeep : ∀ b, prot b → prot b ∧ w'.heap[b]? = w.heap[b]? := fun b hb => ⟨hb, hun b (r.pr b hb)⟩
  have hun' : ∀ b, unowned ψ obj w b → unowned ψ' (updW obj ((d, some (k, ob)) :: kl.map fun n => (n, none))) w' b := fun b hb => ⟨Nat.lt_of_lt_of_le hb.1 h4, fun n j o l g1 g2 => by
    rcases hobj n j o g1 with ⟨rfl, rfl, rfl⟩ | ⟨_, _, g3⟩
    · rw [hdk] at g2; injection g2 with g2; subst g2
      exact hfree b hb
    · obtain ⟨l', g4, _⟩ := r.live n j o g3
      rw [hold _ _ _ g4] at g2; injection g2 with g2; subst g2
      exact hb.2 n j o _ g3 g4⟩
  refine ⟨ψ', ⟨h1, h2, h3, h4, hold, fun _ h => h, fun b hb => ⟨hun' b hb, hun b hb⟩, fun _ h => .inl h⟩, ⟨fun n j o g => ?_, fun n n' j j' o o' l l' g g' hne g1 g2 b g3 g4 => ?_, fun b hb => hun' b (r.pr b hb)⟩, hdk, hold, fun n j hne => ?_⟩
  · rcases hobj n j o g with ⟨rfl, rfl, rfl⟩ | ⟨_, hk, g3⟩
    · exact ⟨loc, hdk, ho ψ' hold⟩
    · obtain ⟨l, g4, g5⟩ := r.live n j o g3
      exact ⟨l, hold _ _ _ g4, g5.mono hold hkeep fun b hb => hblk n j o l b hk g3 g4 hb⟩
  · have aux : ∀ n j o l, n ∉ kl → obj n = some (j, o) → ψ n j = some l → ∀ b, l.block = some b → loc.block ≠ some b := fun n j o l hk g g' b e e' => by
      obtain ⟨l', g4, g5⟩ := r.live n j o g
      rw [g'] at g4; injection g4 with g4; subst g4
      rcases hl b e' with h | ⟨m, hm, i, oo, ll, g6, g7, g8⟩
      · have := g5.inside b e; omega
      · exact r.inj n m j i o oo l ll g g6 (fun e => hk (e ▸ hm)) g' g7 b e g8
    rcases hobj n j o g with ⟨rfl, rfl, rfl⟩ | ⟨_, hk, e3⟩ <;> rcases hobj n' j' o' g' with ⟨rfl, rfl, rfl⟩ | ⟨_, hk', e3'⟩
    · exact hne rfl
    · obtain ⟨ll, g5, _⟩ := r.live n' j' o' e3'
      rw [hold _ _ _ g5] at g2; injection g2 with g2; subst g2
      rw [hdk] at g1; injection g1 with g1; subst g1
      exact aux n' j' o' _ hk' e3' g5 b g4 g3
    · obtain ⟨ll, g5, _⟩ := r.live n j o e3
      rw [hold _ _ _ g5] at g1; injection g1 with g1; subst g1
      rw [hdk] at g2; injection g2 with g2; subst g2
      exact aux n j o _ hk e3 g5 b g3 g4
    · obtain ⟨ll, g5, _⟩ := r.live n j o e3
      rw [hold _ _ _ g5] at g1; injection g1 with g1; subst g1
      obtain ⟨ll', g5', _⟩ := r.live n' j' o' e3'
      rw [hold _ _ _ g5'] at g2; injection g2 with g2; subst g2
      exact r.inj n n' j j' o o' _ _ e3 e3' hne g5 g5' b g3 g4
  · by_cases e : n = d ∧ j = k
    · exact .inr ⟨e.2, e.1⟩
    · left
      simp only [ψ', e, if_false] at hne
      exact hne

theorem evolve_store (r : RH ψ prot obj w) (n k : Nat) (o ob : AObj) (loc : Loc) (hn : obj n = some (k, o)) (hl : ψ n k = some loc) (h1 : w'.os = w.os) (h2 : w'.tape = w.tape) (h3 : w'.output = w.output) (h4 : w.heap.size ≤ w'.heap.size)
    (hu : ∀ b, b < w.heap.size → loc.block ≠ some b → w'.heap[b]? = w.heap[b]?) (ho : ORel ψ prot w' loc ob) :
    Evolve ψ prot obj w ψ prot (updW obj [(n, some (k, ob))]) w' ∧ RH ψ prot (updW obj [(n, some (k, ob))]) w' := by
  have hobj : ∀ m j o', updW obj [(n, some (k, ob))] m = some (j, o') → (m = n ∧ j = k ∧ o' = ob) ∨ (m ≠ n ∧ obj m = some (j, o')) := fun m j o' h => by
    simp only [updW, List.lookup_cons] at h
    by_cases hm : m = n
    · subst hm
      simp only [beq_self_eq_true, Option.some.injEq, Prod.mk.injEq] at h
      exact .inl ⟨rfl, h.1.symm, h.2.symm⟩
    · have e : (m == n) = false := by simpa using hm
      rw [e] at h
      exact .inr ⟨hm, h⟩
  have hun : ∀ b, unowned ψ obj w b → w'.heap[b]? = w.heap[b]? := fun b hb => hu b hb.1 (hb.2 n k o loc hn hl)
  have hun' : ∀ b, unowned ψ obj w b → unowned ψ (updW obj [(n, some (k, ob))]) w' b := fun b hb => ⟨Nat.lt_of_lt_of_le hb.1 h4, fun m j o' l g1 g2 => by
    rcases hobj m j o' g1 with ⟨rfl, rfl, rfl⟩ | ⟨_, g3⟩
    · exact hb.2 m j o l hn g2
    · exact hb.2 m j o' l g3 g2⟩
  have hkeep : ∀ b, prot b → prot b ∧ w'.heap[b]? = w.heap[b]? := fun b hb => ⟨hb, hun b (r.pr b hb)⟩
  refine ⟨⟨h1, h2, h3, h4, fun _ _ _ h => h, fun _ h => h, fun b hb => ⟨hun' b hb, hun b hb⟩, fun _ h => .inl h⟩, ⟨fun m j o' g => ?_, fun m m' j j' o' o'' l l' g g' hne g1 g2 => ?_, fun b hb => hun' b (r.pr b hb)⟩⟩
  · rcases hobj m j o' g with ⟨rfl, rfl, rfl⟩ | ⟨hm, g3⟩
    · exact ⟨loc, hl, ho⟩
    · obtain ⟨l, g4, g5⟩ := r.live m j o' g3
      refine ⟨l, g4, g5.mono (fun _ _ _ h => h) hkeep fun b hb => hu b (g5.inside b hb) fun e => ?_⟩
      exact r.inj m n j k o' o l loc g3 hn hm g4 hl b hb e
  · rcases hobj m j o' g with ⟨rfl, rfl, rfl⟩ | ⟨_, e3⟩ <;> rcases hobj m' j' o'' g' with ⟨rfl, rfl, rfl⟩ | ⟨_, e3'⟩
    · exact absurd rfl hne
    · exact r.inj _ _ _ _ _ _ _ _ hn e3' hne g1 g2
    · exact r.inj _ _ _ _ _ _ _ _ e3 hn hne g1 g2
    · exact r.inj _ _ _ _ _ _ _ _ e3 e3' hne g1 g2
end

section
variable {P : Program} {k : Nat} {st : St} {o : Oper}
theorem opok_quiet {v : AVal} {touch : List Nat} (h : ∀ (ψ : Ghost) (prot : Nat → Prop) (obj : Objs) (w : World) (ρ : Operand → Value), (∀ n ∈ touch, obj n = st.obj n) → (∀ x ∈ o.op.operands, VRel ψ prot w (st.aop x) (ρ x)) → RH ψ prot obj w →
      ∃ cv, (execOp ρ o).run P w = .ok (.value cv) w ∧ VRel ψ prot w v cv) : OpOk P k st o ⟨v, [], touch, []⟩ := by
  refine ⟨fun n hn => by simp [Writes.names] at hn, fun ψ prot obj w ρ ht hx r _ => ?_⟩
  obtain ⟨cv, h1, h2⟩ := h ψ prot obj w ρ ht hx r
  rw [h1]
  exact ⟨ψ, prot, .refl _ _ _ _, r.toRH, h2, fun n j hne => .inl hne⟩

theorem opok_move {x : Operand} {v : AVal} (ho : o.op = .move x) (hx : st.aop x = v) : OpOk P k st o ⟨v, [], [], []⟩ :=
  opok_quiet fun ψ prot obj w ρ _ hr _ => ⟨ρ x, by simp [execOp, ho, Sem.run, pure], hx ▸ hr x (by simp [ho, Op.operands])⟩
theorem opok_assign {x : Operand} {v : AVal} (ho : o.op = .assign x) (hx : st.aop x = v) : OpOk P k st o ⟨v, [], [], []⟩ :=
  opok_quiet fun ψ prot obj w ρ _ hr _ => ⟨ρ x, by simp [execOp, ho, Sem.run, pure], hx ▸ hr x (by simp [ho, Op.operands])⟩
theorem opok_pick {c x y : Operand} {b : Bool} {v : AVal} (ho : o.op = .pick c x y) (hc : st.aop c = .val (.bool b)) (hv : (if b then st.aop x else st.aop y) = v) : OpOk P k st o ⟨v, [], [], []⟩ :=
  opok_quiet fun ψ prot obj w ρ _ hr _ => by
    have h1 := (hc ▸ hr c (by simp [ho, Op.operands]) : VRel ψ prot w (.val (.bool b)) (ρ c)).val_eq
    refine ⟨if b then ρ x else ρ y, by simp [execOp, ho, h1, asBool, Sem.run, pure, go_sem], ?_⟩
    subst hv
    cases b
    · exact hr y (by simp [ho, Op.operands])
    · exact hr x (by simp [ho, Op.operands])
end
end Go.Proofs.YtboddbheljenhaaGreatDoor
namespace Go.Proofs.YtboddbheljenhaaGreatDoor
open Go.RowKit

def AVal.known : AVal → Bool
  | .any => false
  | _ => true
def AVal.one : AVal → Bool
  | .any => false
  | .val (.agg _) => false
  | .val (.tuple _) => false
  | .agg _ => false
  | .tuple _ => false
  | _ => true
section
variable {ψ : Ghost} {prot : Nat → Prop} {w : World}
theorem VRel.flat {x : AVal} {v : Value} (h : VRel ψ prot w x v) (hk : x.known = true) : VRels ψ prot w x.flat v.cells.toList := by
  cases h with
  | any v => cases hk
  | val v =>
    cases v
    case agg cs =>
      refine ⟨by simp [AVal.flat, Value.cells], fun i y u h1 h2 => ?_⟩
      simp only [AVal.flat, List.getElem?_map, Value.cells] at h1 h2
      rw [h2] at h1
      simp only [Option.map_some, Option.some.injEq] at h1
      subst h1
      exact .val u
    all_goals exact ⟨rfl, fun i y u h1 h2 => by
      cases i with
      | zero => simp [AVal.flat, Value.cells] at h1 h2; subst h1; subst h2; exact .val _
      | succ i => simp [AVal.flat] at h1⟩
  | agg cs vs hl hv => exact ⟨by simp [AVal.flat, Value.cells, hl], fun i y u h1 h2 => hv i y u h1 (by simpa [Value.cells] using h2)⟩
  | roNil a cap h => exact ⟨rfl, fun i y u h1 h2 => by
      cases i with
      | zero => simp [AVal.flat, Value.cells] at h1 h2; subst h1; subst h2; exact .roNil a cap h
      | succ i => simp [AVal.flat] at h1⟩
  | ro es vs b o cap hcp hp hl hc hv => exact ⟨rfl, fun i y u h1 h2 => by
      cases i with
      | zero => simp [AVal.flat, Value.cells] at h1 h2; subst h1; subst h2; exact .ro es vs b o cap hcp hp hl hc hv
      | succ i => simp [AVal.flat] at h1⟩
  | own n k len loc h => exact ⟨rfl, fun i y u h1 h2 => by
      cases i with
      | zero => simp [AVal.flat, Value.cells] at h1 h2; subst h1; subst h2; exact .own n k len loc h
      | succ i => simp [AVal.flat] at h1⟩
  | ptr n k off b cap h => exact ⟨rfl, fun i y u h1 h2 => by
      cases i with
      | zero => simp [AVal.flat, Value.cells] at h1 h2; subst h1; subst h2; exact .ptr n k off b cap h
      | succ i => simp [AVal.flat] at h1⟩
  | sub n k off len sz b cap h => exact ⟨rfl, fun i y u h1 h2 => by
      cases i with
      | zero => simp [AVal.flat, Value.cells] at h1 h2; subst h1; subst h2; exact .sub n k off len sz b cap h
      | succ i => simp [AVal.flat] at h1⟩
  | win n k len b o cap hc h => exact ⟨rfl, fun i y u h1 h2 => by
      cases i with
      | zero => simp [AVal.flat, Value.cells] at h1 h2; subst h1; subst h2; exact .win n k len b o cap hc h
      | succ i => simp [AVal.flat] at h1⟩
  | wptr n k i b o cap hc h => exact ⟨rfl, fun i' y u h1 h2 => by
      cases i' with
      | zero => simp [AVal.flat, Value.cells] at h1 h2; subst h1; subst h2; exact .wptr n k i b o cap hc h
      | succ i' => simp [AVal.flat] at h1⟩
  | mp n k b cap h => exact ⟨rfl, fun i y u h1 h2 => by
      cases i with
      | zero => simp [AVal.flat, Value.cells] at h1 h2; subst h1; subst h2; exact .mp n k b cap h
      | succ i => simp [AVal.flat] at h1⟩
  | rref cs vs b o hp hl hc hv => exact ⟨rfl, fun i y u h1 h2 => by
      cases i with
      | zero => simp [AVal.flat, Value.cells] at h1 h2; subst h1; subst h2; exact .rref cs vs b o hp hl hc hv
      | succ i => simp [AVal.flat] at h1⟩
  | tuple cs vs hl hv => exact ⟨rfl, fun i y u h1 h2 => by
      cases i with
      | zero => simp [AVal.flat, Value.cells] at h1 h2; subst h1; subst h2; exact .tuple cs vs hl hv
      | succ i => simp [AVal.flat] at h1⟩
  | fn f cs vs hl hv => exact ⟨rfl, fun i y u h1 h2 => by
      cases i with
      | zero => simp [AVal.flat, Value.cells] at h1 h2; subst h1; subst h2; exact .fn f cs vs hl hv
      | succ i => simp [AVal.flat] at h1⟩
  | ifc t v => exact ⟨rfl, fun i y u h1 h2 => by
      cases i with
      | zero => simp [AVal.flat, Value.cells] at h1 h2; subst h1; subst h2; exact .ifc t v
      | succ i => simp [AVal.flat] at h1⟩
theorem VRel.one {x : AVal} {v : Value} (h : VRel ψ prot w x v) (hk : x.one = true) : v.oneCell' = true := by
  cases h
  case val => cases v <;> first | rfl | (cases hk; done)
  all_goals first | rfl | (cases hk; done)
theorem VRels.one {xs : List AVal} {vs : List Value} (h : VRels ψ prot w xs vs) (hk : ∀ x ∈ xs, x.one = true) : ∀ v ∈ vs, v.oneCell' = true := fun v hv => by
  obtain ⟨i, hi⟩ := List.mem_iff_getElem?.1 hv
  have hlt : i < xs.length := by rw [← h.1]; exact (List.getElem?_eq_some_iff.1 hi).1
  have hx : xs[i]? = some xs[i] := List.getElem?_eq_getElem hlt
  exact (h.2 i _ v hx hi).one (hk _ (List.getElem_mem hlt))
theorem VRels.append {xs ys : List AVal} {us vs : List Value} (h : VRels ψ prot w xs us) (g : VRels ψ prot w ys vs) : VRels ψ prot w (xs ++ ys) (us ++ vs) :=
  ⟨by simp [h.1, g.1], fun i x v h1 h2 => by
    by_cases hi : i < xs.length
    · rw [List.getElem?_append_left hi] at h1
      rw [List.getElem?_append_left (by rw [h.1]; exact hi)] at h2
      exact h.2 i x v h1 h2
    · rw [List.getElem?_append_right (by omega)] at h1
      rw [List.getElem?_append_right (by rw [h.1]; omega), h.1] at h2
      exact g.2 _ x v h1 h2⟩
theorem VRels.take {xs : List AVal} {vs : List Value} (h : VRels ψ prot w xs vs) (m : Nat) : VRels ψ prot w (xs.take m) (vs.take m) :=
  ⟨by simp [h.1], fun i x v h1 h2 => by
    rw [List.getElem?_take] at h1 h2
    split at h1
    · rename_i hi; rw [if_pos hi] at h2; exact h.2 i x v h1 h2
    · cases h1⟩
theorem VRels.drop {xs : List AVal} {vs : List Value} (h : VRels ψ prot w xs vs) (m : Nat) : VRels ψ prot w (xs.drop m) (vs.drop m) :=
  ⟨by simp [h.1], fun i x v h1 h2 => by
    rw [List.getElem?_drop] at h1 h2
    exact h.2 _ x v h1 h2⟩
theorem VRels.agg {xs : List AVal} {vs : Array Value} (h : VRels ψ prot w xs vs.toList) : VRel ψ prot w (.agg xs) (.agg vs) := .agg xs vs (by simpa using h.1) fun i x v h1 h2 => h.2 i x v h1 (by simpa using h2)
theorem VRel.aggs {xs : List AVal} {v : Value} (h : VRel ψ prot w (.agg xs) v) : ∃ vs : Array Value, v = .agg vs ∧ VRels ψ prot w xs vs.toList := by
  cases h with
  | agg _ vs hl hv => exact ⟨vs, rfl, by simpa using hl, fun i x v h1 h2 => hv i x v h1 (by simpa using h2)⟩
theorem VRels.vals {vs : List Value} : VRels ψ prot w (vs.map .val) vs := ⟨by simp, fun i x v h1 h2 => by
  simp only [List.getElem?_map, h2, Option.map_some, Option.some.injEq] at h1
  subst h1; exact .val v⟩

theorem VRel.rref_inv {cs : List AVal} {v : Value} (h : VRel ψ prot w (.rref cs) v) : ∃ (vs : List Value) (b o : Nat), v = .pointer (some ⟨b, o, none⟩) ∧ prot b ∧ VRels ψ prot w cs vs ∧ ∀ (i : Nat) (u : Value), vs[i]? = some u → w.cell? ⟨b, o + i, none⟩ = some u := by
  cases h with
  | rref _ vs b o hp hl hc hv => exact ⟨vs, b, o, rfl, hp, ⟨hl, hv⟩, hc⟩
theorem VRel.ptr_inv {n k off : Nat} {v : Value} (h : VRel ψ prot w (.ptr n k off) v) : ∃ b cap, v = .pointer (some ⟨b, off, none⟩) ∧ ψ n k = some ⟨some b, cap⟩ := by
  cases h with
  | ptr _ _ _ b cap h => exact ⟨b, cap, rfl, h⟩
theorem VRel.own_inv {n k len : Nat} {v : Value} (h : VRel ψ prot w (.own n k len) v) : ∃ loc, v = .slice (loc.block.map fun b => ⟨b, 0, none⟩) len loc.cap ∧ ψ n k = some loc := by
  cases h with
  | own _ _ _ loc h => exact ⟨loc, rfl, h⟩
theorem VRel.ro_inv {es : List AVal} {v : Value} (h : VRel ψ prot w (.ro es) v) : (es = [] ∧ ∃ a cap, v = .slice a 0 cap ∧ (a = none → cap = 0)) ∨ ∃ (vs : List Value) (b o cap : Nat), v = .slice (some ⟨b, o, none⟩) es.length cap ∧ prot b ∧ VRels ψ prot w (es.flatMap AVal.flat) vs ∧ (∀ (i : Nat) (u : Value), vs[i]? = some u → w.cell? ⟨b, o + i, none⟩ = some u) ∧ es.length ≤ cap := by
  cases h with
  | roNil a cap h => exact .inl ⟨rfl, a, cap, rfl, h⟩
  | ro _ vs b o cap hcp hp hl hc hv => exact .inr ⟨vs, b, o, cap, rfl, hp, ⟨hl, hv⟩, hc, hcp⟩

def AObj.cells : AObj → List AVal
  | .row _ _ es => es.flatMap AVal.flat
  | .box _ cs => cs
  | .que _ _ _ => []
  | .mapI _ => []
  | .rowS _ _ _ _ _ _ => []
  | .mapV _ _ => []
  | .arr _ cs => cs
  | .rowF _ => []
theorem addr_add0 (b i j : Nat) : (⟨b, i, none⟩ : Addr).add j = ⟨b, i + j, none⟩ := by unfold Addr.add; split <;> simp_all
theorem ORel.cell {loc : Loc} {ob : AObj} (h : ORel ψ prot w loc ob) {b : Nat} (hb : loc.block = some b) : ∃ vs : List Value, VRels ψ prot w ob.cells vs ∧ ∀ (i : Nat) (v : Value), vs[i]? = some v → w.cell? ⟨b, i, none⟩ = some v := by
  cases ob with
  | row t sz es =>
    obtain ⟨xs, h1, h2⟩ := h
    refine ⟨xs, h2, fun i v hi => ?_⟩
    have := h1.cells (g := b) (by rw [hb]; rfl) i v hi
    rwa [addr_add0, Nat.zero_add] at this
  | box t cs =>
    obtain ⟨b', vs, h0, h1, h2⟩ := h
    rw [hb] at h0; injection h0 with h0; subst h0
    exact ⟨vs, h2, fun i v hi => by rw [cell_of_row w b i vs.toArray t (0, 0) h1]; simpa using hi⟩
  | que t sz es => exact ⟨[], ⟨rfl, fun i x v h1 h2 => by simp at h2⟩, fun i v hi => by simp at hi⟩
  | mapI f => exact ⟨[], ⟨rfl, fun i x v h1 h2 => by simp at h2⟩, fun i v hi => by simp at hi⟩
  | rowS t sz es n kn len => exact ⟨[], ⟨rfl, fun i x v h1 h2 => by simp at h2⟩, fun i v hi => by simp at hi⟩
  | mapV kd l => exact ⟨[], ⟨rfl, fun i x v h1 h2 => by simp at h2⟩, fun i v hi => by simp at hi⟩
  | rowF xs => exact ⟨[], ⟨rfl, fun i x v h1 h2 => by simp at h2⟩, fun i v hi => by simp at hi⟩
  | arr t cs =>
    obtain ⟨b', vs, h0, h1, h2⟩ := h
    rw [h0] at hb; injection hb with hb; subst hb
    exact ⟨vs, h2, fun i v hi => by rw [cell_of_row w b' i vs.toArray t (0, 0) h1]; simpa using hi⟩
end

def plainType (P : Program) (t : TypeId) : Bool := match P.underlying t with | some (.struct _) => false | some (.array _ _) => false | some _ => true | none => false
def aggType (P : Program) (t : TypeId) : Bool := match P.underlying t with | some (.struct _) => true | some (.array _ _) => true | _ => false
theorem run_isAgg {P : Program} {t : TypeId} (w : World) : (plainType P t = true → (isAgg t).run P w = .ok false w) ∧ (aggType P t = true → (isAgg t).run P w = .ok true w) := by
  constructor
  · intro h
    unfold plainType at h
    cases hu : P.underlying t with
    | none => rw [hu] at h; cases h
    | some d =>
      rw [hu] at h
      cases d <;> first | (cases h; done) | simp [isAgg, run_underlying hu]
  · intro h
    unfold aggType at h
    cases hu : P.underlying t with
    | none => rw [hu] at h; cases h
    | some d =>
      rw [hu] at h
      cases d <;> first | (cases h; done) | simp [isAgg, run_underlying hu]
theorem run_newObj_ {P : Program} (ob : Obj) (w : World) : (newObj ob).run P w = .ok w.heap.size (w.alloc ob) := rfl
theorem run_typeInfo_ {P : Program} {t : TypeId} {i : TypeInfo} (hi : P.info? t = some i) (w : World) : (typeInfo t).run P w = .ok i w := by
  show (match P.info? t with | some i => pure i | none => stuck "no such type" : Sem TypeInfo).run P w = _
  rw [hi]; rfl
def sizeIs (P : Program) (t : TypeId) (m : Nat) : Prop := (P.info? t).map (·.size) = some m
theorem run_sizeIs {P : Program} {t : TypeId} {m : Nat} (h : sizeIs P t m) (w : World) : (sizeOf t).run P w = .ok m w := by
  unfold sizeIs at h
  cases hi : P.info? t with
  | none => rw [hi] at h; cases h
  | some i => rw [hi] at h; simp at h; simp only [sizeOf, run_typeInfo_ hi, h, Sem.run_bind, Sem.run_pure, Result.andThen_ok]
theorem run_loadVar1 {P : Program} {t : TypeId} {w : World} {a : Addr} {v : Value} (ht : plainType P t = true) (h : w.cell? a = some v) : (loadVar t a).run P w = .ok v w := by
  simp only [loadVar, (run_isAgg (P := P) w).1 ht, load, Sem.run, h, Sem.run_bind, Result.andThen_ok, if_false, Bool.false_eq_true]
theorem run_loadVarA {P : Program} {t : TypeId} {w : World} {b o : Nat} {vs : List Value} (ht : aggType P t = true) (hs : sizeIs P t vs.length) (h : ∀ (i : Nat) (v : Value), vs[i]? = some v → w.cell? ⟨b, o + i, none⟩ = some v) :
    (loadVar t ⟨b, o, none⟩).run P w = .ok (.agg vs.toArray) w := by
  have := run_loadCells_list (P := P) w ⟨b, o, none⟩ vs (fun j v hv => by rw [addr_add0]; exact h j v hv)
  simp only [loadVar, (run_isAgg (P := P) w).2 ht, run_sizeIs hs, this, Sem.run_bind, Sem.run_pure, Result.andThen_ok, if_true]

section
variable {P : Program} {k : Nat} {st : St} {o : Oper}
theorem opok_new {v : AVal} {d : Nat} {ob : AObj} (h : ∀ (ψ : Ghost) (prot : Nat → Prop) (w : World) (ρ : Operand → Value), (∀ x ∈ o.op.operands, VRel ψ prot w (st.aop x) (ρ x)) → ∃ cv ob' cap, (execOp ρ o).run P w = .ok (.value cv) (w.alloc ob') ∧
      (∀ ψ' : Ghost, (∀ n j l, ψ n j = some l → ψ' n j = some l) → (∀ b, prot b → b < w.heap.size) → ORel ψ' prot (w.alloc ob') ⟨some w.heap.size, cap⟩ ob) ∧ ∀ ψ' : Ghost, ψ' d k = some ⟨some w.heap.size, cap⟩ → VRel ψ' prot (w.alloc ob') v cv) :
    OpOk P k st o ⟨v, [(d, some (k, ob))], [d], [d]⟩ := by
  refine ⟨fun n hn => by simpa [Writes.names] using hn, fun ψ prot obj w ρ _ hx r hf => ?_⟩
  obtain ⟨cv, ob', cap, h1, h2, h3⟩ := h ψ prot w ρ hx
  rw [h1]
  obtain ⟨ψ', g1, g2, g3, g4, g5⟩ := evolve_make (w' := w.alloc ob') r.toRH [] d k ⟨some w.heap.size, cap⟩ ob (hf d (by simp)) rfl rfl rfl (by simp) (fun b hb _ => Below.heap_alloc w ob' b hb) (fun b hb => by injection hb with hb; exact .inl (by omega)) (fun ψ' hψ' => h2 ψ' hψ' fun b hb => (r.pr b hb).1)
  exact ⟨ψ', prot, g1, g2, h3 ψ' g3, fun n j hne => (g5 n j hne).imp id fun ⟨e1, e2⟩ => ⟨e1, by simp [e2]⟩⟩
theorem keep_alloc {prot : Nat → Prop} {w : World} (ob' : Obj) (hp : ∀ b, prot b → b < w.heap.size) : ∀ b, prot b → prot b ∧ (w.alloc ob').heap[b]? = w.heap[b]? := fun b hb => ⟨hb, Below.heap_alloc w ob' b (hp b hb)⟩
theorem opok_box {t : TypeId} {x : Operand} (d : Nat) {v : AVal} {cs : List AVal} (ho : o.op = .box t x) (hx : st.aop x = v) (hk : v.known = true) (hcs : v.flat = cs) : OpOk P k st o ⟨.ptr d k 0, [(d, some (k, .box t cs))], [d], [d]⟩ :=
  opok_new fun ψ prot w ρ hr => by
    have h1 := hx ▸ hr x (by simp [ho, Op.operands])
    have h2 := h1.flat hk
    rw [hcs] at h2
    refine ⟨.pointer (some ⟨w.heap.size, 0, none⟩), .cells (ρ x).cells t (0, 0), 0, by simp only [execOp, ho, Instr.box, newVar, newRow, Sem.run_bind, Sem.run_pure, Result.andThen_ok, run_newObj_], fun ψ' hψ hp => ⟨w.heap.size, (ρ x).cells.toList, rfl, ?_, ?_⟩, fun ψ' h => .ptr d k 0 _ _ h⟩
    · simpa using heap_alloc_new w (.cells (ρ x).cells t (0, 0))
    · exact h2.mono hψ (keep_alloc _ hp)
theorem opok_alloc {t : TypeId} (d : Nat) {z : Value} {cs : List AVal} (ho : o.op = .alloc t) (hz : (P.info? t).bind (·.zero) = some z) (hcs : (AVal.val z).flat = cs) : OpOk P k st o ⟨.ptr d k 0, [(d, some (k, .box t cs))], [d], [d]⟩ :=
  opok_new fun ψ prot w ρ hr => by
    cases hi : P.info? t with
    | none => rw [hi] at hz; cases hz
    | some i =>
      rw [hi] at hz
      have hz' : i.zero = some z := hz
      have h2 : VRels ψ prot w cs z.cells.toList := hcs ▸ VRel.flat (x := .val z) (.val z) rfl
      refine ⟨.pointer (some ⟨w.heap.size, 0, none⟩), .cells z.cells t (0, 0), 0, by simp only [execOp, ho, Instr.alloc, zeroValue, run_typeInfo_ hi, hz', newVar, newRow, Sem.run_bind, Sem.run_pure, Result.andThen_ok, run_newObj_], fun ψ' hψ hp => ⟨w.heap.size, z.cells.toList, rfl, ?_, ?_⟩, fun ψ' h => .ptr d k 0 _ _ h⟩
      · simpa using heap_alloc_new w (.cells z.cells t (0, 0))
      · exact h2.mono hψ (keep_alloc _ hp)
theorem opok_load {t : TypeId} {p : Operand} {n kk off : Nat} {ob : AObj} {x : AVal} (ho : o.op = .load t p) (hp : st.aop p = .ptr n kk off) (hn : st.obj n = some (kk, ob)) (ht : plainType P t = true) (hc : ob.cells[off]? = some x) : OpOk P k st o ⟨x, [], [n], []⟩ :=
  opok_quiet fun ψ prot obj w ρ hob hr r => by
    have h1 := hp ▸ hr p (by simp [ho, Op.operands])
    obtain ⟨loc, h2, h3⟩ := r.live n kk ob ((hob n (by simp)).trans hn)
    obtain ⟨b, cap, hpv, h⟩ := h1.ptr_inv
    rw [h2] at h; injection h with h; subst h
    obtain ⟨vs, h4, h5⟩ := h3.cell rfl
    have hlt : off < vs.length := by rw [h4.1]; exact (List.getElem?_eq_some_iff.1 hc).1
    have hv : vs[off]? = some vs[off] := List.getElem?_eq_getElem hlt
    exact ⟨vs[off], by simp only [execOp, ho, hpv, Instr.loadAt, Instr.sureAddr, run_loadVar1 ht (h5 off _ hv), Sem.run_bind, Sem.run_pure, Result.andThen_ok], h4.2 off x _ hc hv⟩
theorem opok_loadA {t : TypeId} {p : Operand} {n kk off m : Nat} {ob : AObj} {xs : List AVal} (ho : o.op = .load t p) (hp : st.aop p = .ptr n kk off) (hn : st.obj n = some (kk, ob)) (ht : aggType P t = true) (hs : sizeIs P t m)
    (hc : (ob.cells.drop off).take m = xs) (hl : xs.length = m) : OpOk P k st o ⟨.agg xs, [], [n], []⟩ :=
  opok_quiet fun ψ prot obj w ρ hob hr r => by
    have h1 := hp ▸ hr p (by simp [ho, Op.operands])
    obtain ⟨loc, h2, h3⟩ := r.live n kk ob ((hob n (by simp)).trans hn)
    obtain ⟨b, cap, hpv, h⟩ := h1.ptr_inv
    rw [h2] at h; injection h with h; subst h
    obtain ⟨vs, h4, h5⟩ := h3.cell rfl
    have h6 := (h4.drop off).take m
    rw [hc] at h6
    have h7 := run_loadVarA (P := P) (t := t) (w := w) (b := b) (o := off) (vs := (vs.drop off).take m) ht (by rw [h6.1, hl]; exact hs) (fun i v hi => by
      rw [List.getElem?_take] at hi
      split at hi
      · rw [List.getElem?_drop] at hi; exact h5 _ v hi
      · cases hi)
    exact ⟨.agg ((vs.drop off).take m).toArray, by simp only [execOp, ho, hpv, Instr.loadAt, Instr.sureAddr, Sem.run_bind, Sem.run_pure, Result.andThen_ok, h7], VRels.agg (by simpa using h6)⟩
theorem opok_loadR {t : TypeId} {p : Operand} {cs : List AVal} {x : AVal} (ho : o.op = .load t p) (hp : st.aop p = .rref cs) (ht : plainType P t = true) (hc : cs[0]? = some x) : OpOk P k st o ⟨x, [], [], []⟩ :=
  opok_quiet fun ψ prot obj w ρ hob hr r => by
    have h1 := hp ▸ hr p (by simp [ho, Op.operands])
    obtain ⟨vs, b, off, hpv, hpr, ⟨hl, hv⟩, hcc⟩ := h1.rref_inv
    have hlt : 0 < vs.length := by rw [hl]; exact (List.getElem?_eq_some_iff.1 hc).1
    have hv0 : vs[0]? = some vs[0] := List.getElem?_eq_getElem hlt
    exact ⟨vs[0], by simp only [execOp, ho, hpv, Instr.loadAt, Instr.sureAddr, run_loadVar1 ht (show w.cell? ⟨b, off, none⟩ = some vs[0] from by have := hcc 0 _ hv0; rwa [Nat.add_zero] at this), Sem.run_bind, Sem.run_pure, Result.andThen_ok], hv 0 x _ hc hv0⟩
theorem opok_loadRA {t : TypeId} {p : Operand} {cs : List AVal} (ho : o.op = .load t p) (hp : st.aop p = .rref cs) (ht : aggType P t = true) (hs : sizeIs P t cs.length) : OpOk P k st o ⟨.agg cs, [], [], []⟩ :=
  opok_quiet fun ψ prot obj w ρ hob hr r => by
    have h1 := hp ▸ hr p (by simp [ho, Op.operands])
    obtain ⟨vs, b, off, hpv, hpr, ⟨hl, hv⟩, hcc⟩ := h1.rref_inv
    have h7 := run_loadVarA (P := P) (t := t) (w := w) (b := b) (o := off) (vs := vs) ht (by rw [hl]; exact hs) hcc
    exact ⟨.agg vs.toArray, by simp only [execOp, ho, hpv, Instr.loadAt, Instr.sureAddr, Sem.run_bind, Sem.run_pure, Result.andThen_ok, h7], VRels.agg (by simpa using ⟨hl, hv⟩)⟩
theorem opok_fieldAddr {s : TypeId} {p : Operand} {f n kk off m : Nat} {fs : Array Field} {fd : Field} (ho : o.op = .fieldAddr s p f) (hp : st.aop p = .ptr n kk off) (hu : P.underlying s = some (.struct fs)) (hf : fs[f]? = some fd) (hs : sizeIs P fd.type m) (hm : m ≠ 0) :
    OpOk P k st o ⟨.ptr n kk (off + fd.offset), [], [], []⟩ :=
  opok_quiet fun ψ prot obj w ρ hob hr r => by
    have h1 := hp ▸ hr p (by simp [ho, Op.operands])
    obtain ⟨b, cap, hpv, h⟩ := h1.ptr_inv
    refine ⟨.pointer (some ⟨b, off + fd.offset, none⟩), ?_, .ptr n kk _ b cap h⟩
    simp [execOp, ho, hpv, Instr.fieldAt, run_underlying hu, hf, Instr.sureAddr, fieldPlace, run_sizeIs hs, hm, addr_add0, go_sem]
end
end Go.Proofs.YtboddbheljenhaaGreatDoor
namespace Go.Proofs.YtboddbheljenhaaGreatDoor
open Go.RowKit

def setCells (cs : List AVal) (off : Nat) (fs : List AVal) : List AVal := cs.take off ++ fs ++ cs.drop (off + fs.length)
theorem run_storeVar_at {P : Program} {t t' : TypeId} {w : World} {b off : Nat} {vs : List Value} {v : Value} (hb : w.heap[b]? = some (.cells vs.toArray t' (0, 0))) (hs : sizeIs P t v.cells.size) (hf : off + v.cells.size ≤ vs.length) (h1 : ∀ u ∈ v.cells.toList, u.oneCell' = true) :
    (storeVar t ⟨b, off, none⟩ v).run P w = .ok () (w.setRow b (vs.take off ++ v.cells.toList ++ vs.drop (off + v.cells.size)).toArray) := by
  have h := run_storeCells_at (P := P) b off t' v.cells.toList 0 vs.toArray w hb (by simpa using hf) h1
  simp only [Nat.add_zero] at h
  have e : ∀ i, storeCells ⟨b, off, none⟩ v.cells.toList i = storeCells ⟨b, off, none⟩ v.cells.toList i := fun _ => rfl
  simp only [storeVar, run_sizeIs hs, Sem.run_bind, Result.andThen_ok, ne_eq, not_true_eq_false, if_false]
  rw [h]
  simp
section
variable {P : Program} {k : Nat} {st : St} {o : Oper}
theorem opok_store {t bt : TypeId} {p x : Operand} {n kk off : Nat} {cs fs cs' : List AVal} {v : AVal} (ho : o.op = .store t p x) (hp : st.aop p = .ptr n kk off) (hn : st.obj n = some (kk, .box bt cs)) (hx : st.aop x = v) (hk : v.known = true) (hfs : v.flat = fs)
    (h1 : fs.all AVal.one = true) (hs : sizeIs P t fs.length) (hf : off + fs.length ≤ cs.length) (hcs : setCells cs off fs = cs') : OpOk P k st o ⟨.any, [(n, some (kk, .box bt cs'))], [n], []⟩ := by
  subst hcs
  refine ⟨fun m hm => by simpa [Writes.names] using hm, fun ψ prot obj w ρ hob hr r _ => ?_⟩
  have e1 := hp ▸ hr p (by simp [ho, Op.operands])
  have e2 := (hx ▸ hr x (by simp [ho, Op.operands]) : VRel ψ prot w v (ρ x)).flat hk
  rw [hfs] at e2
  have hnn := (hob n (by simp)).trans hn
  obtain ⟨loc, h2, h3⟩ := r.live n kk _ hnn
  obtain ⟨b, cap, hpv, h⟩ := e1.ptr_inv
  rw [h2] at h; injection h with h; subst h
  obtain ⟨b', vs, h4, h5, h6⟩ := h3
  injection h4 with h4; subst h4
  have hl : (ρ x).cells.size = fs.length := by simpa using e2.1
  have hrun := run_storeVar_at (P := P) (t := t) (off := off) (v := ρ x) h5 (by rw [hl]; exact hs) (by rw [hl, h6.1]; exact hf) (e2.one (by simpa using h1))
  have hr' : (execOp ρ o).run P w = .ok .skip (w.setRow b (vs.take off ++ (ρ x).cells.toList ++ vs.drop (off + (ρ x).cells.size)).toArray) := by
    simp only [execOp, ho, hpv, Instr.storeAt, Instr.sureAddr, Sem.run_bind, Sem.run_pure, Result.andThen_ok, hrun]
  rw [hr']
  have hoth : ∀ c, c < w.heap.size → (some b : Option Nat) ≠ some c → (w.setRow b (vs.take off ++ (ρ x).cells.toList ++ vs.drop (off + (ρ x).cells.size)).toArray).heap[c]? = w.heap[c]? := fun c _ hc => setRow_other w b c _ (fun e => hc (by rw [e]))
  have hbn : ¬ prot b := fun hpb => (r.pr b hpb).2 n kk _ _ hnn h2 rfl
  have hkeep : ∀ c, prot c → prot c ∧ (w.setRow b (vs.take off ++ (ρ x).cells.toList ++ vs.drop (off + (ρ x).cells.size)).toArray).heap[c]? = w.heap[c]? := fun c hc => ⟨hc, setRow_other w b c _ (fun e => hbn (e ▸ hc))⟩
  obtain ⟨g1, g2⟩ := evolve_store (w' := w.setRow b (vs.take off ++ (ρ x).cells.toList ++ vs.drop (off + (ρ x).cells.size)).toArray) r.toRH n kk _ (.box bt (setCells cs off fs)) _ hnn h2 rfl rfl rfl (by simp [World.setRow]) hoth
    ⟨b, _, rfl, setRow_heap w b _ _ _ _ h5, VRels.mono (by rw [hl]; exact ((h6.take off).append e2).append (h6.drop (off + fs.length))) (fun _ _ _ h => h) hkeep⟩
  exact ⟨ψ, prot, g1, g2, .any _, fun m j hne => .inl hne⟩

/-! ### Slices -/
theorem opok_len_own {x : Operand} {t : TypeId} {n kk len : Nat} {e : TypeId} (ho : o.op = .call { callee := .builtin .len, args := #[x], argTypes := #[t] }) (hx : st.aop x = .own n kk len) (ht : P.underlying t = some (.slice e)) : OpOk P k st o ⟨.val (.int .i64 len), [], [], []⟩ :=
  opok_quiet fun ψ prot obj w ρ _ hr _ => by
    have h1 := hx ▸ hr x (by simp [ho, Op.operands, Call.operands])
    obtain ⟨loc, hv, _⟩ := h1.own_inv
    exact ⟨.int .i64 len, by simp [execOp, ho, resolve, invoke, builtin, hv, Builtin.len_, run_underlying ht, goInt, Result.andThen], .val _⟩
theorem opok_len_ro {x : Operand} {t : TypeId} {es : List AVal} {e : TypeId} (ho : o.op = .call { callee := .builtin .len, args := #[x], argTypes := #[t] }) (hx : st.aop x = .ro es) (ht : P.underlying t = some (.slice e)) : OpOk P k st o ⟨.val (.int .i64 es.length), [], [], []⟩ :=
  opok_quiet fun ψ prot obj w ρ _ hr _ => by
    have h1 := hx ▸ hr x (by simp [ho, Op.operands, Call.operands])
    rcases h1.ro_inv with ⟨rfl, a0, c0, hv, _⟩ | ⟨vs, b, off, cap, hv, _⟩
    · exact ⟨.int .i64 0, by simp [execOp, ho, resolve, invoke, builtin, hv, Builtin.len_, run_underlying ht, goInt, Result.andThen], .val _⟩
    · exact ⟨.int .i64 es.length, by simp [execOp, ho, resolve, invoke, builtin, hv, Builtin.len_, run_underlying ht, goInt, Result.andThen], .val _⟩

theorem flat_at {sz : Nat} : ∀ {es : List AVal}, (∀ e ∈ es, e.flat.length = sz) → ∀ (i : Nat) (x : AVal), es[i]? = some x → ((es.flatMap AVal.flat).drop (i * sz)).take sz = x.flat ∧ i * sz + sz ≤ (es.flatMap AVal.flat).length
  | [], _, i, x, h => by simp at h
  | e :: es, hs, i, x, h => by
    have he := hs e List.mem_cons_self
    cases i with
    | zero =>
      simp only [List.getElem?_cons_zero, Option.some.injEq] at h
      subst h
      simp only [List.flatMap_cons, Nat.zero_mul, List.drop_zero, List.length_append, he, Nat.zero_add]
      exact ⟨by rw [← he, List.take_left], by omega⟩
    | succ i =>
      simp only [List.getElem?_cons_succ] at h
      obtain ⟨h1, h2⟩ := flat_at (fun e he => hs e (List.mem_cons_of_mem _ he)) i x h
      have e2 : (i + 1) * sz = e.flat.length + i * sz := by rw [he, Nat.add_mul]; omega
      simp only [List.flatMap_cons, List.length_append, he]
      constructor
      · rw [e2, List.drop_append, Nat.add_sub_cancel_left, List.drop_of_length_le (by omega), List.nil_append]
        exact h1
      · rw [Nat.add_mul]; omega
def widths (sz : Nat) (es : List AVal) : Bool := es.all fun e => e.flat.length == sz
theorem widths_spec {sz : Nat} {es : List AVal} (h : widths sz es = true) : ∀ e ∈ es, e.flat.length = sz := fun e he => by
  have := (List.all_eq_true.1 h) e he
  simpa using this
theorem run_index {P : Program} {t e : TypeId} {kd : IntKind} {i : Int} {b off len cap sz : Nat} (w : World) (ht : P.underlying t = some (.slice e)) (hs : sizeIs P e sz) (h0 : 0 ≤ i) (h1 : i < len) :
    (Instr.indexAt t (.slice (some ⟨b, off, none⟩) len cap) (.int kd i)).run P w = .ok (.pointer (some ⟨b, off + i.toNat * sz, none⟩)) w := by
  simp [Instr.indexAt, asIntOf, run_underlying ht, h0, h1, run_sizeIs hs, addr_add0, go_sem]
theorem opok_index_ro {t e : TypeId} {x ix : Operand} {es : List AVal} {kd : IntKind} {i : Int} {sz : Nat} {y : AVal} (ho : o.op = .indexAddr t x ix) (hx : st.aop x = .ro es) (hi : st.aop ix = .val (.int kd i)) (ht : P.underlying t = some (.slice e)) (hs : sizeIs P e sz)
    (hw : widths sz es = true) (h0 : 0 ≤ i) (hy : es[i.toNat]? = some y) : OpOk P k st o ⟨.rref y.flat, [], [], []⟩ :=
  opok_quiet fun ψ prot obj w ρ _ hr _ => by
    have e1 := hx ▸ hr x (by simp [ho, Op.operands])
    have e2 := (hi ▸ hr ix (by simp [ho, Op.operands]) : VRel ψ prot w (.val (.int kd i)) (ρ ix)).val_eq
    have hlt : i.toNat < es.length := (List.getElem?_eq_some_iff.1 hy).1
    rcases e1.ro_inv with ⟨rfl, _⟩ | ⟨vs, b, off, cap, hv, hp, h4, h5, hcp⟩
    · simp at hlt
    · obtain ⟨f1, f2⟩ := flat_at (widths_spec hw) _ _ hy
      have h6 := (h4.drop (i.toNat * sz)).take sz
      rw [f1] at h6
      refine ⟨.pointer (some ⟨b, off + i.toNat * sz, none⟩), ?_, .rref _ _ b _ hp h6.1 (fun j u hj => ?_) h6.2⟩
      · simp only [execOp, ho, hv, e2, run_index w ht hs h0 (show i < es.length by omega), Sem.run_bind, Sem.run_pure, Result.andThen_ok]
      · rw [List.getElem?_take] at hj
        split at hj
        · rw [List.getElem?_drop] at hj
          rw [Nat.add_assoc]; exact h5 _ u hj
        · cases hj
theorem opok_index_own {t e : TypeId} {x ix : Operand} {n kk len : Nat} {t' : TypeId} {sz' : Nat} {es : List AVal} {kd : IntKind} {i : Int} {sz : Nat} (ho : o.op = .indexAddr t x ix) (hx : st.aop x = .own n kk len) (hn : st.obj n = some (kk, .row t' sz' es)) (hi : st.aop ix = .val (.int kd i)) (ht : P.underlying t = some (.slice e)) (hs : sizeIs P e sz)
    (h0 : 0 ≤ i) (h1 : i < len) (hl : len = es.length) : OpOk P k st o ⟨.ptr n kk (i.toNat * sz), [], [n], []⟩ :=
  opok_quiet fun ψ prot obj w ρ hob hr r => by
    have e1 := hx ▸ hr x (by simp [ho, Op.operands])
    have e2 := (hi ▸ hr ix (by simp [ho, Op.operands]) : VRel ψ prot w (.val (.int kd i)) (ρ ix)).val_eq
    obtain ⟨loc, hv, hψ⟩ := e1.own_inv
    obtain ⟨loc', g1, g2⟩ := r.live n kk _ ((hob n (by simp)).trans hn)
    rw [hψ] at g1; injection g1 with g1; subst g1
    obtain ⟨xs, g3, _⟩ := g2
    cases hb : loc.block with
    | none =>
      rw [hb] at g3
      rcases g3.2 with ⟨_, h⟩ | ⟨g, c, cur, h, _⟩
      · omega
      · cases h
    | some b =>
      refine ⟨.pointer (some ⟨b, i.toNat * sz, none⟩), ?_, .ptr n kk _ b loc.cap (by rw [hψ]; cases loc; simp_all)⟩
      have := run_index (P := P) (kd := kd) (b := b) (off := 0) (cap := loc.cap) w ht hs h0 h1
      rw [Nat.zero_add] at this
      simp only [execOp, ho, hv, hb, e2, Option.map_some, this, Sem.run_bind, Sem.run_pure, Result.andThen_ok]

theorem opok_extract {x : Operand} {ix : Nat} {vs : List AVal} {y : AVal} (ho : o.op = .extract x ix) (hx : st.aop x = .tuple vs) (hy : vs[ix]? = some y) : OpOk P k st o ⟨y, [], [], []⟩ :=
  opok_quiet fun ψ prot obj w ρ _ hr _ => by
    have e1 := hx ▸ hr x (by simp [ho, Op.operands])
    cases hxv : ρ x <;> rw [hxv] at e1 <;> cases e1
    rename_i us hl hv
    have hlt : ix < us.size := by rw [hl]; exact (List.getElem?_eq_some_iff.1 hy).1
    have hu : us[ix]? = some us[ix] := Array.getElem?_eq_getElem hlt
    exact ⟨us[ix], by simp only [execOp, ho, hxv, Instr.extract, hu, Sem.run_bind, Sem.run_pure, Result.andThen_ok], hv ix y _ hy hu⟩
theorem run_bound {P : Program} (w : World) (kd : IntKind) (n y : Nat) (c : BoundsCode) (h : n ≤ y) : (Instr.sliceBound (.int kd n) y c).run P w = .ok n w := by
  simp [Instr.sliceBound, asIntOf, h, go_sem]
def boundIs (st : St) (x : Option Operand) (dflt n : Nat) : Prop := (x = none ∧ n = dflt) ∨ ∃ y kd, x = some y ∧ st.aop y = .val (.int kd n)
theorem run_slice {P : Program} {t e : TypeId} {a : Option Addr} {len cap sz lo hi : Nat} {lo' hi' : Option Value} (w : World) (ht : P.underlying t = some (.slice e)) (hs : sizeIs P e sz) (hlo : lo' = none ∧ lo = 0 ∨ ∃ kd, lo' = some (.int kd lo)) (hhi : hi' = none ∧ hi = len ∨ ∃ kd, hi' = some (.int kd hi)) (h1 : lo ≤ hi) (h2 : hi ≤ cap) :
    (Instr.sliceAt t (.slice a len cap) lo' hi' none).run P w = .ok (.slice (if cap = lo then a else a.map (·.add (lo * sz))) (hi - lo) (cap - lo)) w := by
  rcases hlo with ⟨rfl, rfl⟩ | ⟨kd, rfl⟩ <;> rcases hhi with ⟨rfl, rfl⟩ | ⟨kd', rfl⟩ <;>
    simp [Instr.sliceAt, Instr.slice, Instr.sliceBounds, run_underlying ht, run_sizeIs hs, run_bound, h1, h2, go_sem]
theorem mid_flat {sz : Nat} {es : List AVal} (hw : ∀ e ∈ es, e.flat.length = sz) (lo m : Nat) : ((es.drop lo).take m).flatMap AVal.flat = ((es.flatMap AVal.flat).drop (lo * sz)).take (m * sz) := by
  have hd : ∀ (es : List AVal), (∀ e ∈ es, e.flat.length = sz) → ∀ lo, (es.drop lo).flatMap AVal.flat = (es.flatMap AVal.flat).drop (lo * sz) := by
    intro es
    induction es with
    | nil => intro _ lo; simp
    | cons e es ih =>
      intro hw lo
      have he := hw e List.mem_cons_self
      cases lo with
      | zero => simp
      | succ lo =>
        have e2 : (lo + 1) * sz = e.flat.length + lo * sz := by rw [he, Nat.add_mul]; omega
        simp only [List.drop_succ_cons, List.flatMap_cons, e2, List.drop_append, Nat.add_sub_cancel_left]
        rw [List.drop_eq_nil_of_le (Nat.le_add_right e.flat.length (lo * sz)), List.nil_append]
        exact ih (fun e he => hw e (List.mem_cons_of_mem _ he)) lo
  have htk : ∀ (es : List AVal), (∀ e ∈ es, e.flat.length = sz) → ∀ m, (es.take m).flatMap AVal.flat = (es.flatMap AVal.flat).take (m * sz) := by
    intro es
    induction es with
    | nil => intro _ lo; simp
    | cons e es ih =>
      intro hw m
      have he := hw e List.mem_cons_self
      cases m with
      | zero => simp
      | succ m =>
        have e2 : (m + 1) * sz = e.flat.length + m * sz := by rw [he, Nat.add_mul]; omega
        simp only [List.take_succ_cons, List.flatMap_cons, e2, List.take_append, Nat.add_sub_cancel_left]
        rw [List.take_of_length_le (Nat.le_add_right e.flat.length (m * sz)), ih (fun e he => hw e (List.mem_cons_of_mem _ he)) m]
  rw [htk _ (fun e he => hw e (List.mem_of_mem_drop he)), hd es hw]
end
end Go.Proofs.YtboddbheljenhaaGreatDoor
namespace Go.Proofs.YtboddbheljenhaaGreatDoor
open Go.RowKit

section
variable {P : Program}
theorem run_append_src {w : World} {t ty e : TypeId} {z : Value} {sz bytes : Nat} (ht : P.underlying t = some (.slice e)) (hi : (P.info? e).map (fun i => (i.zero, i.size, i.bytes)) = some (some z, sz, bytes)) (hz : z.cells.size = sz) (hsz : 0 < sz) (hby : bytes ≤ 140)
    {v : Value} {n : Nat} {xs : List Value} (hown : w.ownsRow 0 e sz v n xs) {a : Option Addr} {m c : Nat} {news : List Value} (hl : news.length = m * sz) (hnews : ∀ j u, news[j]? = some u → ∃ ad, a = some ad ∧ w.cell? (ad.add j) = some u) (ha : a = none → m = 0 ∧ c = 0)
    (h1 : ∀ u ∈ news, u.oneCell' = true) (hN : n + m ≤ 1000000000000) :
    ∃ v' w', (Builtin.append_ #[t, t] ty #[v, .slice a m c]).run P w = .ok v' w' ∧ w'.ownsRow 0 e sz v' (n + m) (xs ++ news) ∧ w.grownBy w' v.ownBlock ∧ ∀ g, v'.ownBlock = some g → v.ownBlock = some g ∨ w.heap.size ≤ g := by
  obtain ⟨i, hi0, hz0, hs0, hb0⟩ := info_parts hi
  have hbytes : (n + m) * bytes ≤ 140737488355328 := by
    calc (n + m) * bytes ≤ 1000000000000 * 140 := Nat.mul_le_mul hN hby
      _ ≤ _ := by omega
  have h63 : n + m ≤ maxLen := by unfold maxLen; omega
  cases a with
  | none =>
    obtain ⟨rfl, rfl⟩ := ha rfl
    obtain rfl : news = [] := List.eq_nil_of_length_eq_zero (by simpa using hl)
    exact ⟨v, w, run_append_owned_none (P := P) (w := w) 0 t ty e i sz ht hi0 v n xs hown, by simpa using hown, ⟨rfl, rfl, rfl, Nat.le_refl _, fun _ _ _ => rfl⟩, fun g h => .inl h⟩
  | some ad =>
    have hnews' : ∀ j u, news[j]? = some u → w.cell? (ad.add j) = some u := fun j u h => by
      obtain ⟨ad', e1, e2⟩ := hnews j u h
      injection e1 with e1; subst e1; exact e2
    obtain ⟨v', w', hr, g1, g2, -⟩ := run_append_own (P := P) w 0 t ty e i z sz bytes ht hi0 hz0 hs0 hb0 hz hsz v n xs hown ad m c news hl hnews' h1 h63 hbytes (Nat.zero_le _)
    refine ⟨v', w', hr, g1, g2, fun g hg => ?_⟩
    rcases hown.2 with ⟨rfl, rfl⟩ | ⟨g0, cap, cur, rfl, hbg, hg0, hnc, hcm, hcs, htake⟩
    · have hx : xs = [] := List.eq_nil_of_length_eq_zero (by simpa using hown.1)
      subst hx
      obtain ⟨v2, w2, hr2, k1, -, -⟩ := run_append_own (P := P) w w.heap.size t ty e i z sz bytes ht hi0 hz0 hs0 hb0 hz hsz (.slice none 0 0) 0 [] (World.ownsRow_nil _ _ _ _) ad m c news hl hnews' h1 h63 hbytes (Nat.le_refl _)
      rw [hr] at hr2
      injection hr2 with e1 e2
      subst e1
      exact .inr (k1.lt g hg).1
    · by_cases hroom : n + m ≤ cap
      · have hfit : n * i.size + news.length ≤ cur.size := by rw [hs0, hl, hcs, ← Nat.add_mul]; exact Nat.mul_le_mul_right _ hroom
        have hr2 := run_append_room (P := P) w t ty e i ht hi0 g0 n cap cur hg0 ad m c news (by rw [hs0]; exact hl) hnews' h1 hroom hfit
        rw [hr] at hr2
        injection hr2 with e1 e2
        subst e1
        exact .inl hg
      · have holds : ∀ j u, xs[j]? = some u → w.cell? ((⟨g0, 0, none⟩ : Addr).add j) = some u := hown.cells (g := g0) rfl
        have hr2 := run_append_grow (P := P) w t ty e i z ht hi0 hz0 ⟨g0, 0, none⟩ n cap xs (by rw [hs0]; exact hown.1) holds ad m c news (by rw [hs0]; exact hl) hnews' (by omega) (by omega) (growslice_fits (by omega) (by rw [hb0]; exact hbytes))
        rw [hr] at hr2
        injection hr2 with e1 e2
        subst e1
        simp only [Value.ownBlock, Option.some.injEq] at hg
        exact .inr (by omega)
end

section
variable {P : Program} {k : Nat} {st : St} {o : Oper}
theorem opok_slice_pre {t e : TypeId} {x : Operand} {y : Operand} {n kk len hi : Nat} {kd : IntKind} {t' : TypeId} {sz' sz : Nat} {es : List AVal} (ho : o.op = .slice t x none (some y) none) (hx : st.aop x = .own n kk len) (hn : st.obj n = some (kk, .row t' sz' es)) (hy : st.aop y = .val (.int kd hi)) (ht : P.underlying t = some (.slice e)) (hs : sizeIs P e sz) (hl : len = es.length) (h : hi ≤ len) : OpOk P k st o ⟨.own n kk hi, [], [n], []⟩ :=
  opok_quiet fun ψ prot obj w ρ hob hr r => by
    have e1 := hx ▸ hr x (by simp [ho, Op.operands])
    have e2 := (hy ▸ hr y (by simp [ho, Op.operands]) : VRel ψ prot w (.val (.int kd hi)) (ρ y)).val_eq
    obtain ⟨loc, hv, hψ⟩ := e1.own_inv
    obtain ⟨loc', g1, g2⟩ := r.live n kk _ ((hob n (by simp)).trans hn)
    rw [hψ] at g1; injection g1 with g1; subst g1
    obtain ⟨xs, g3, _⟩ := g2
    have hcap : es.length ≤ loc.cap := by
      rcases g3.2 with ⟨q, q0⟩ | ⟨g, c, cur, q, _, _, hnc, _⟩
      · omega
      · injection q with _ _ q3; rw [q3]; exact hnc
    have := run_slice (P := P) (a := loc.block.map fun b => ⟨b, 0, none⟩) (len := len) (cap := loc.cap) (lo := 0) (hi := hi) (lo' := none) (hi' := some (.int kd hi)) w ht hs (.inl ⟨rfl, rfl⟩) (.inr ⟨kd, rfl⟩) (Nat.zero_le _) (by omega)
    have ea : (if loc.cap = 0 then (loc.block.map fun b => (⟨b, 0, none⟩ : Addr)) else (loc.block.map fun b => (⟨b, 0, none⟩ : Addr)).map (·.add (0 * sz))) = loc.block.map fun b => ⟨b, 0, none⟩ := by
      split
      · rfl
      · cases loc.block <;> simp [addr_add0]
    rw [ea] at this
    exact ⟨_, by simp only [execOp, ho, hv, e2, Option.map_none, Option.map_some, this, Sem.run_bind, Sem.run_pure, Result.andThen_ok, Nat.sub_zero], .own n kk hi loc hψ⟩
theorem opok_slice_sub {t e : TypeId} {x : Operand} {y : Operand} {n kk len lo : Nat} {kd : IntKind} {t' : TypeId} {sz' sz : Nat} {es : List AVal} (ho : o.op = .slice t x (some y) none none) (hx : st.aop x = .own n kk len) (hn : st.obj n = some (kk, .row t' sz' es)) (hy : st.aop y = .val (.int kd lo)) (ht : P.underlying t = some (.slice e)) (hs : sizeIs P e sz) (hl : len = es.length) (h0 : 0 < len) (h : lo ≤ len) : OpOk P k st o ⟨.sub n kk lo (len - lo) sz, [], [n], []⟩ :=
  opok_quiet fun ψ prot obj w ρ hob hr r => by
    have e1 := hx ▸ hr x (by simp [ho, Op.operands])
    have e2 := (hy ▸ hr y (by simp [ho, Op.operands]) : VRel ψ prot w (.val (.int kd lo)) (ρ y)).val_eq
    obtain ⟨loc, hv, hψ⟩ := e1.own_inv
    obtain ⟨loc', g1, g2⟩ := r.live n kk _ ((hob n (by simp)).trans hn)
    rw [hψ] at g1; injection g1 with g1; subst g1
    obtain ⟨xs, g3, _⟩ := g2
    rcases g3.2 with ⟨q, q0⟩ | ⟨g, c, cur, q, _, _, hnc, _⟩
    · omega
    injection q with q1 _ q3
    have hb : loc.block = some g := by
      cases hq : loc.block with
      | none => rw [hq] at q1; cases q1
      | some b => rw [hq] at q1; simp at q1; rw [q1]
    have := run_slice (P := P) (a := loc.block.map fun b => ⟨b, 0, none⟩) (len := len) (cap := loc.cap) (lo := lo) (hi := len) (lo' := some (.int kd lo)) (hi' := none) w ht hs (.inr ⟨kd, rfl⟩) (.inl ⟨rfl, rfl⟩) h (by omega)
    have ea : (if loc.cap = lo then (loc.block.map fun b => (⟨b, 0, none⟩ : Addr)) else (loc.block.map fun b => (⟨b, 0, none⟩ : Addr)).map (·.add (lo * sz))) = some ⟨g, if loc.cap = lo then 0 else lo * sz, none⟩ := by
      rw [hb]
      split <;> simp [addr_add0]
    rw [ea] at this
    exact ⟨_, by simp only [execOp, ho, hv, e2, Option.map_none, Option.map_some, this, Sem.run_bind, Sem.run_pure, Result.andThen_ok], .sub n kk lo (len - lo) sz g loc.cap (by rw [hψ, ← hb])⟩
inductive BaseIs (st : St) (e : TypeId) (sz : Nat) : AVal → List Nat → List AVal → Prop where
  | nil : BaseIs st e sz (.val (.slice none 0 0)) [] []
  | own (n kk : Nat) (es : List AVal) (len : Nat) (hn : st.obj n = some (kk, .row e sz es)) (hl : len = es.length) : BaseIs st e sz (.own n kk len) [n] es
  | pre (n kk : Nat) (es : List AVal) (len : Nat) (hn : st.obj n = some (kk, .row e sz es)) (hl : len ≤ es.length) (hw : widths sz es = true) : BaseIs st e sz (.own n kk len) [n] (es.take len)
inductive SrcIs (st : St) : AVal → List Nat → List AVal → Prop where
  | nil : SrcIs st (.val (.slice none 0 0)) [] []
  | ro (es : List AVal) : SrcIs st (.ro es) [] es
  | own (n kk : Nat) (t : TypeId) (sz : Nat) (es : List AVal) (len : Nat) (hn : st.obj n = some (kk, .row t sz es)) (hl : len = es.length) : SrcIs st (.own n kk len) [n] es
  | pre (n kk : Nat) (t : TypeId) (sz : Nat) (es : List AVal) (len : Nat) (hn : st.obj n = some (kk, .row t sz es)) (hl : len ≤ es.length) (hw : widths sz es = true) : SrcIs st (.own n kk len) [n] (es.take len)
  | sub (n kk : Nat) (t : TypeId) (sz : Nat) (es : List AVal) (off len : Nat) (hn : st.obj n = some (kk, .row t sz es)) (hl : off + len = es.length) (hw : widths sz es = true) : SrcIs st (.sub n kk off len sz) [n] (es.drop off)
theorem loc_of_own {ψ : Ghost} {prot : Nat → Prop} {w : World} {loc : Loc} {t : TypeId} {sz : Nat} {es : List AVal} (h : ORel ψ prot w loc (.row t sz es)) : ∃ xs, VRels ψ prot w (es.flatMap AVal.flat) xs ∧ (∀ j u, xs[j]? = some u → ∃ ad : Addr, loc.block.map (fun b => (⟨b, 0, none⟩ : Addr)) = some ad ∧ w.cell? (ad.add j) = some u) ∧
    (loc.block = none → es.length = 0 ∧ loc.cap = 0) := by
  obtain ⟨xs, h1, h2⟩ := h
  refine ⟨xs, h2, fun j u hj => ?_, fun hb => ?_⟩
  · cases hb : loc.block with
    | none =>
      rw [hb] at h1
      rcases h1.2 with ⟨_, h⟩ | ⟨g, c, cur, h, _⟩
      · have := h1.1
        rw [h, Nat.zero_mul] at this
        rw [List.eq_nil_of_length_eq_zero this] at hj
        simp at hj
      · cases h
    | some b =>
      rw [hb] at h1
      exact ⟨⟨b, 0, none⟩, rfl, h1.cells (g := b) rfl j u hj⟩
  · rw [hb] at h1
    rcases h1.2 with ⟨h, h0⟩ | ⟨g, c, cur, h, _⟩
    · injection h with _ _ h3; exact ⟨h0, h3⟩
    · cases h
theorem drop_flat {sz : Nat} {es : List AVal} (hw : ∀ e ∈ es, e.flat.length = sz) (lo : Nat) : (es.drop lo).flatMap AVal.flat = (es.flatMap AVal.flat).drop (lo * sz) := by
  have := mid_flat hw lo es.length
  rw [List.take_of_length_le (by simp)] at this
  rw [this, List.take_of_length_le]
  have hl : ∀ es : List AVal, (∀ e ∈ es, e.flat.length = sz) → (es.flatMap AVal.flat).length = es.length * sz := by
    intro es
    induction es with
    | nil => intro _; simp
    | cons e es ih => intro hw; simp only [List.flatMap_cons, List.length_append, hw e List.mem_cons_self, ih (fun e he => hw e (List.mem_cons_of_mem _ he)), List.length_cons, Nat.add_mul]; omega
  rw [List.length_drop, hl es hw]; omega
theorem take_flat {sz : Nat} {es : List AVal} (hw : ∀ e ∈ es, e.flat.length = sz) (m : Nat) : (es.take m).flatMap AVal.flat = (es.flatMap AVal.flat).take (m * sz) := by
  have := mid_flat hw 0 m
  simpa using this
theorem VRel.sub_inv {ψ : Ghost} {prot : Nat → Prop} {w : World} {n k off len sz : Nat} {v : Value} (h : VRel ψ prot w (.sub n k off len sz) v) : ∃ b cap, v = .slice (some ⟨b, if cap = off then 0 else off * sz, none⟩) len (cap - off) ∧ ψ n k = some ⟨some b, cap⟩ := by
  cases h with
  | sub _ _ _ _ _ b cap h => exact ⟨b, cap, rfl, h⟩
theorem row_take {ψ : Ghost} {prot : Nat → Prop} {w : World} {e : TypeId} {sz len cap : Nat} {bl : Option Nat} {es : List AVal} {xs : List Value} (g3 : w.ownsRow 0 e sz (.slice (bl.map fun b => ⟨b, 0, none⟩) es.length cap) es.length xs) (g4 : VRels ψ prot w (es.flatMap AVal.flat) xs) (hw : widths sz es = true) (hl : len ≤ es.length) :
    w.ownsRow 0 e sz (.slice (bl.map fun b => ⟨b, 0, none⟩) len cap) len (xs.take (len * sz)) ∧ VRels ψ prot w ((es.take len).flatMap AVal.flat) (xs.take (len * sz)) := by
  have hxl : xs.length = es.length * sz := g3.1
  have hle : len * sz ≤ es.length * sz := Nat.mul_le_mul_right _ hl
  refine ⟨⟨by simp [hxl, Nat.min_eq_left hle], ?_⟩, by rw [take_flat (widths_spec hw)]; exact g4.take _⟩
  rcases g3.2 with ⟨q, q0⟩ | ⟨g, c, cur, q, hb0, hg, hnc, hcm, hcs, htake⟩
  · injection q with q1 q2 q3
    left
    have : len = 0 := by omega
    subst this
    exact ⟨by rw [q1, q3], rfl⟩
  · injection q with q1 q2 q3
    refine .inr ⟨g, c, cur, by rw [q1, q3], hb0, hg, by omega, hcm, hcs, ?_⟩
    rw [← htake, List.take_take, Nat.min_eq_left hle]
theorem src_cells {ψ : Ghost} {prot : Nat → Prop} {obj : Objs} {w : World} {xv : AVal} {tl : List Nat} {es2 : List AVal} {u0 : Value} (hsrc : SrcIs st xv tl es2) (e2 : VRel ψ prot w xv u0) (hob : ∀ n ∈ tl, obj n = st.obj n) (r : RH ψ prot obj w) :
    ∃ a c news, u0 = .slice a es2.length c ∧ VRels ψ prot w (es2.flatMap AVal.flat) news ∧ (∀ j u, news[j]? = some u → ∃ ad, a = some ad ∧ w.cell? (ad.add j) = some u) ∧ (a = none → es2.length = 0 ∧ c = 0) := by
  cases hsrc with
  | nil => exact ⟨none, 0, [], e2.val_eq, ⟨rfl, fun i x v h => by simp at h⟩, fun j u h => by simp at h, fun _ => ⟨rfl, rfl⟩⟩
  | ro es =>
    rcases e2.ro_inv with ⟨rfl, a0, c0, hv, hnil⟩ | ⟨vs, b, off, cap, hv, hp, h4, h5, _⟩
    · exact ⟨a0, c0, [], hv, ⟨rfl, fun i x v h => by simp at h⟩, fun j u h => by simp at h, fun h => ⟨rfl, hnil h⟩⟩
    · exact ⟨_, cap, vs, hv, h4, fun j u h => ⟨_, rfl, by rw [addr_add0]; exact h5 j u h⟩, fun h => by cases h⟩
  | own n kk t2 sz2 es len hn hl =>
    obtain ⟨loc, hv, hψ⟩ := e2.own_inv
    obtain ⟨loc', g1, g2⟩ := r.live n kk _ ((hob n (by simp)).trans hn)
    rw [hψ] at g1; injection g1 with g1; subst g1
    obtain ⟨ys, g3, g4, g5⟩ := loc_of_own g2
    subst hl
    exact ⟨_, loc.cap, ys, hv, g3, g4, fun h => g5 (by cases hbb : loc.block with | none => rfl | some b => rw [hbb] at h; cases h)⟩
  | pre n kk t2 sz2 es len hn hl hw2 =>
    obtain ⟨loc, hv, hψ⟩ := e2.own_inv
    obtain ⟨loc', g1, g2⟩ := r.live n kk _ ((hob n (by simp)).trans hn)
    rw [hψ] at g1; injection g1 with g1; subst g1
    obtain ⟨ys, g3, g4, g5⟩ := loc_of_own g2
    have el : (es.take len).length = len := by simp [Nat.min_eq_left hl]
    refine ⟨_, loc.cap, ys.take (len * sz2), by rw [hv, el], ?_, fun j u hj => ?_, fun h => ?_⟩
    · rw [take_flat (widths_spec hw2)]; exact g3.take _
    · rw [List.getElem?_take] at hj
      split at hj
      · exact g4 j u hj
      · cases hj
    · obtain ⟨q1, q2⟩ := g5 (by cases hbb : loc.block with | none => rfl | some b => rw [hbb] at h; cases h)
      exact ⟨by rw [el]; omega, q2⟩
  | sub n kk t2 sz2 es off len hn hl hw2 =>
    obtain ⟨b, cap, hv, hψ⟩ := e2.sub_inv
    obtain ⟨loc', g1, g2⟩ := r.live n kk _ ((hob n (by simp)).trans hn)
    rw [hψ] at g1; injection g1 with g1; subst g1
    obtain ⟨ys, g3, g4⟩ := g2
    have hcap : es.length ≤ cap := by
      rcases g3.2 with ⟨q, _⟩ | ⟨g, c, cur, q, _, _, hnc, _⟩
      · cases q
      · injection q with _ _ q3; have q4 : cap = c := q3; omega
    have el : (es.drop off).length = len := by simp; omega
    have eo : ∀ j u, (ys.drop (off * sz2))[j]? = some u → ¬ cap = off := fun j u hj => by
      intro ec
      have hl2 : ys.length = es.length * sz2 := by
        have := g3.1; simpa using this
      have : off = es.length := by omega
      rw [List.getElem?_drop, List.getElem?_eq_none (by rw [hl2, this]; omega)] at hj
      cases hj
    refine ⟨some ⟨b, if cap = off then 0 else off * sz2, none⟩, cap - off, ys.drop (off * sz2), by rw [hv, el], ?_, fun j u hj => ⟨_, rfl, ?_⟩, fun h => by cases h⟩
    · have := g4.drop (off * sz2)
      rwa [← drop_flat (widths_spec hw2)] at this
    · rw [if_neg (eo j u hj), addr_add0]
      rw [List.getElem?_drop] at hj
      have := g3.cells (g := b) rfl _ u hj
      rwa [addr_add0, Nat.zero_add] at this
theorem opok_append {t e : TypeId} {s x : Operand} (d : Nat) {sv xv : AVal} {z : Value} {sz bytes : Nat} {kl tl : List Nat} {es1 es2 es : List AVal} (ho : o.op = .call { callee := .builtin .append, args := #[s, x], argTypes := #[t, t] })
    (hs : st.aop s = sv) (hx : st.aop x = xv) (ht : P.underlying t = some (.slice e)) (hi : (P.info? e).map (fun i => (i.zero, i.size, i.bytes)) = some (some z, sz, bytes)) (hz : z.cells.size = sz) (hsz : 0 < sz) (hby : bytes ≤ 140)
    (hb : BaseIs st e sz sv kl es1) (hsrc : SrcIs st xv tl es2) (hw : widths sz es2 = true) (h1 : (es2.flatMap AVal.flat).all AVal.one = true) (hN : es1.length + es2.length ≤ 1000000000000) (hes : es1 ++ es2 = es) :
    OpOk P k st o ⟨.own d k es.length, (d, some (k, .row e sz es)) :: kl.map (fun n => (n, none)), d :: (kl ++ tl), [d]⟩ := by
  subst hes
  refine ⟨fun n hn => ?_, fun ψ prot obj w ρ hob hr r hf => ?_⟩
  · simp only [Writes.names, List.map_cons, List.map_map, List.mem_cons, List.mem_map] at hn
    rcases hn with rfl | ⟨m, hm, rfl⟩
    · simp
    · simp [hm]
  have e1 := hs ▸ hr s (by simp [ho, Op.operands, Call.operands])
  have e2 := hx ▸ hr x (by simp [ho, Op.operands, Call.operands])
  -- the base
  obtain ⟨xs, f1, f2, f3⟩ : ∃ xs, w.ownsRow 0 e sz (ρ s) es1.length xs ∧ VRels ψ prot w (es1.flatMap AVal.flat) xs ∧ ∀ g, (ρ s).ownBlock = some g → ∃ n ∈ kl, ∃ j ob l, obj n = some (j, ob) ∧ ψ n j = some l ∧ l.block = some g := by
    cases hb with
    | nil =>
      rw [e1.val_eq]
      exact ⟨[], World.ownsRow_nil _ _ _ _, ⟨rfl, fun i x v h => by simp at h⟩, fun g h => by cases h⟩
    | own n kk _ len hn hl =>
      obtain ⟨loc, hv, hψ⟩ := e1.own_inv
      have hnn := (hob n (by simp)).trans hn
      obtain ⟨loc', g1, g2⟩ := r.live n kk _ hnn
      rw [hψ] at g1; injection g1 with g1; subst g1
      obtain ⟨xs, g3, g4⟩ := g2
      rw [hv, hl]
      refine ⟨xs, g3, g4, fun g hg => ⟨n, by simp, kk, _, loc, hnn, hψ, ?_⟩⟩
      cases hbb : loc.block with
      | none => rw [hbb] at hg; cases hg
      | some b => rw [hbb] at hg; simpa [Value.ownBlock] using hg
    | pre n kk es len hn hl hw =>
      obtain ⟨loc, hv, hψ⟩ := e1.own_inv
      have hnn := (hob n (by simp)).trans hn
      obtain ⟨loc', g1, g2⟩ := r.live n kk _ hnn
      rw [hψ] at g1; injection g1 with g1; subst g1
      obtain ⟨xs, g3, g4⟩ := g2
      rw [hv]
      obtain ⟨q1, q2⟩ := row_take g3 g4 hw hl
      have el : (es.take len).length = len := by simp [Nat.min_eq_left hl]
      rw [el]
      refine ⟨_, q1, q2, fun g hg => ⟨n, by simp, kk, _, loc, hnn, hψ, ?_⟩⟩
      cases hbb : loc.block with
      | none => rw [hbb] at hg; cases hg
      | some b => rw [hbb] at hg; simpa [Value.ownBlock] using hg
  -- the source
  obtain ⟨a, c, news, hxv, h2, h3, h4⟩ := src_cells hsrc e2 (fun n hn => hob n (by simp [hn])) r
  have hlen : news.length = es2.length * sz := by
    have : ∀ es : List AVal, widths sz es = true → (es.flatMap AVal.flat).length = es.length * sz := by
      intro es
      induction es with
      | nil => intro _; simp
      | cons e es ih =>
        intro hw
        have h0 := widths_spec hw e List.mem_cons_self
        have h1 : widths sz es = true := by simp only [widths, List.all_cons, Bool.and_eq_true] at hw; exact hw.2
        simp only [List.flatMap_cons, List.length_append, h0, ih h1, List.length_cons, Nat.add_mul]
        omega
    rw [h2.1, this es2 hw]
  obtain ⟨v', w', hrun, g1, g2, g3⟩ := run_append_src (P := P) (ty := o.type) ht hi hz hsz hby f1 hlen h3 h4 (h2.one (List.all_eq_true.1 h1)) hN
  have hexec : (execOp ρ o).run P w = .ok (.value v') w' := by
    rw [hxv.symm] at hrun
    unfold execOp
    simp only [ho, resolve, invoke, builtin, Sem.run_bind, Sem.run_pure, Result.andThen_ok, List.map_toArray, List.map_cons, List.map_nil, hrun]
  rw [hexec]
  -- where the new one lies
  obtain ⟨loc, hloc⟩ : ∃ loc : Loc, v' = .slice (loc.block.map fun b => ⟨b, 0, none⟩) (es1.length + es2.length) loc.cap := by
    rcases g1.2 with ⟨rfl, h0⟩ | ⟨g, cap, cur, rfl, _⟩
    · exact ⟨⟨none, 0⟩, by rw [h0]; rfl⟩
    · exact ⟨⟨some g, cap⟩, rfl⟩
  have hlb : ∀ b, loc.block = some b → v'.ownBlock = some b := fun b hb => by rw [hloc, hb]; rfl
  have hun : ∀ b, b < w.heap.size → (∀ n j ob l, n ∈ kl → obj n = some (j, ob) → ψ n j = some l → l.block ≠ some b) → w'.heap[b]? = w.heap[b]? := fun b hb hk => g2.block b hb fun e => by
    obtain ⟨n, hn, j, ob, l, q1, q2, q3⟩ := f3 b e.symm
    exact hk n j ob l hn q1 q2 q3
  have hkeep : ∀ b, prot b → prot b ∧ w'.heap[b]? = w.heap[b]? := fun b hb => ⟨hb, hun b (r.pr b hb).1 fun n j ob l _ q1 q2 => (r.pr b hb).2 n j ob l q1 q2⟩
  obtain ⟨ψ', k1, k2, k3, k4, k5⟩ := evolve_make (w' := w') r.toRH kl d k loc (.row e sz (es1 ++ es2)) (hf d (by simp)) g2.os g2.tape g2.output g2.size hun (fun b hb => by
    rcases g3 b (hlb b hb) with h | h
    · exact .inr (f3 b h)
    · exact .inl h) (fun ψ' hψ' => ⟨xs ++ news, by rw [List.length_append, ← hloc]; exact g1, by
      rw [List.flatMap_append]
      exact (f2.append h2).mono hψ' hkeep⟩)
  refine ⟨ψ', prot, k1, k2, ?_, fun n j hne => (k5 n j hne).imp id fun ⟨q1, q2⟩ => ⟨q1, by simp [q2]⟩⟩
  rw [hloc, List.length_append]
  exact .own d k _ loc k3

theorem opok_buildSlice {t e : TypeId} {len : Nat} {parts : Array (Nat × Operand)} (d : Nat) {z : Value} {sz bytes : Nat} {es : List AVal} (ho : o.op = .buildSlice t len parts) (ht : P.underlying t = some (.slice e)) (hi : (P.info? e).map (fun i => (i.zero, i.size, i.bytes)) = some (some z, sz, bytes))
    (hsz : 0 < sz) (h0 : 0 < len) (hlen : len * sz ≤ 16777216) (hp : parts.toList.map (·.1) = List.range len) (hes : parts.toList.map (fun x => st.aop x.2) = es) (hk : es.all AVal.known = true) (hw : widths sz es = true) : OpOk P k st o ⟨.own d k len, [(d, some (k, .row e sz es))], [d], [d]⟩ :=
  opok_new fun ψ prot w ρ hr => by
    obtain ⟨i, hi0, hz0, hs0, hb0⟩ := info_parts hi
    have hpl : parts.toList.length = len := by have := congrArg List.length hp; simpa using this
    have hel : es.length = len := by rw [← hes]; simpa using hpl
    have hin : ∀ x ∈ parts.toList, VRel ψ prot w (st.aop x.2) (ρ x.2) := fun x hx => hr x.2 (by simp only [ho, Op.operands]; simp; exact ⟨x.1, by simpa using hx⟩)
    let vs := parts.toList.map fun x => ρ x.2
    have hvs : ∀ (i : Nat) (x : AVal) (v : Value), es[i]? = some x → vs[i]? = some v → VRel ψ prot w x v ∧ x.known = true ∧ x.flat.length = sz := fun i x v h1 h2 => by
      have hx : x ∈ es := List.mem_of_getElem? h1
      refine ⟨?_, (List.all_eq_true.1 hk) x hx, widths_spec hw x hx⟩
      rw [← hes] at h1
      simp only [vs, List.getElem?_map] at h1 h2
      cases hq : parts.toList[i]? with
      | none => rw [hq] at h1; cases h1
      | some y =>
        rw [hq] at h1 h2
        simp only [Option.map_some, Option.some.injEq] at h1 h2
        subst h1; subst h2
        exact hin y (List.mem_of_getElem? hq)
    have hvl : vs.length = es.length := by simp [vs, ← hes]
    have hall : ∀ (es : List AVal) (vs : List Value), vs.length = es.length → (∀ (i : Nat) (x : AVal) (v : Value), es[i]? = some x → vs[i]? = some v → VRel ψ prot w x v ∧ x.known = true ∧ x.flat.length = sz) →
        VRels ψ prot w (es.flatMap AVal.flat) (vs.flatMap fun v => v.cells.toList) ∧ (∀ v ∈ vs, v.cells.size = sz) ∧ (vs.flatMap fun v => v.cells.toList).length = vs.length * sz := by
      intro es
      induction es with
      | nil => intro vs hl _; obtain rfl : vs = [] := List.eq_nil_of_length_eq_zero hl; exact ⟨⟨rfl, fun i x v h => by simp at h⟩, fun v h => (by cases h), by simp⟩
      | cons x es ih =>
        intro vs hl h
        cases vs with
        | nil => cases hl
        | cons v vs =>
          obtain ⟨q1, q2, q3⟩ := h 0 x v rfl rfl
          obtain ⟨i1, i2, i3⟩ := ih vs (by simpa using hl) fun i x v h1 h2 => h (i + 1) x v h1 h2
          have q4 := q1.flat q2
          have q5 : v.cells.size = sz := by have := q4.1; rw [q3] at this; simpa using this
          refine ⟨by simp only [List.flatMap_cons]; exact q4.append i1, fun u hu => ?_, ?_⟩
          · rcases List.mem_cons.1 hu with rfl | hu
            · exact q5
            · exact i2 u hu
          · simp only [List.flatMap_cons, List.length_append, i3, List.length_cons, Nat.add_mul, Array.length_toList, q5]; omega
    obtain ⟨c1, c2, c3⟩ := hall es vs hvl hvs
    have hparts : (parts.map fun (i, x) => (i, ρ x)).toList = (vs.zipIdx 0).map fun x => (x.2, x.1) := by
      apply List.ext_getElem?
      intro j
      simp only [Array.toList_map, List.getElem?_map, List.getElem?_zipIdx, vs]
      cases hq : parts.toList[j]? with
      | none => simp
      | some y =>
        have hj : j < len := by rw [← hpl]; exact (List.getElem?_eq_some_iff.1 hq).1
        have : (parts.toList.map (·.1))[j]? = some j := by rw [hp]; simp [hj]
        rw [List.getElem?_map, hq] at this
        simp only [Option.map_some, Option.some.injEq] at this
        simp [this]
    have hfill := Great.fill_whole hsz vs ((Array.range (len * i.size)).map (z.cells[· % z.cells.size]!)) c2 (by simp [hs0, hvl, hel])
    rw [hs0.symm] at hfill
    have hrun := run_buildSlice (P := P) w t e len (parts.map fun (i, x) => (i, ρ x)) _ i z ht hi0 hz0 (by rw [hs0]; omega) (by rw [hs0]; have := Nat.mul_pos h0 hsz; omega) (by rw [hparts]; exact hfill)
    refine ⟨.slice (some ⟨w.heap.size, 0, none⟩) len len, .cells (vs.flatMap fun v => v.cells.toList).toArray e (0, 0), len, by unfold execOp; simp only [ho, Sem.run_bind, hrun, Result.andThen_ok, Sem.run_pure], fun ψ' hψ hpr => ⟨vs.flatMap fun v => v.cells.toList, ?_, c1.mono hψ (keep_alloc _ hpr)⟩, fun ψ' h => .own d k len _ h⟩
    rw [hel]
    have := World.ownsRow_lit (base := 0) (size := sz) (e := e) w (vs.flatMap fun v => v.cells.toList).toArray len (Nat.zero_le _) (by unfold maxLen; have : len ≤ len * sz := Nat.le_mul_of_pos_right len hsz; omega) (by simp [c3, hvl, hel])
    simpa using this
theorem opok_assignOwn {x : Operand} (d : Nat) {n kk len : Nat} {ob : AObj} (ho : o.op = .assign x) (hx : st.aop x = .own n kk len) (hn : st.obj n = some (kk, ob)) : OpOk P k st o ⟨.own d k len, [(d, some (k, ob)), (n, none)], [d, n], [d]⟩ := by
  refine ⟨fun m hm => by simpa [Writes.names] using hm, fun ψ prot obj w ρ hob hr r hf => ?_⟩
  have e1 := hx ▸ hr x (by simp [ho, Op.operands])
  obtain ⟨loc, hv, hψ⟩ := e1.own_inv
  have hnn := (hob n (by simp)).trans hn
  obtain ⟨loc', g1, g2⟩ := r.live n kk _ hnn
  rw [hψ] at g1; injection g1 with g1; subst g1
  have hexec : (execOp ρ o).run P w = .ok (.value (ρ x)) w := by simp [execOp, ho, pure]
  rw [hexec]
  obtain ⟨ψ', k1, k2, k3, k4, k5⟩ := evolve_make (w' := w) r.toRH [n] d k loc ob (hf d (by simp)) rfl rfl rfl (Nat.le_refl _) (fun _ _ _ => rfl) (fun b hb => .inr ⟨n, by simp, kk, ob, loc, hnn, hψ, hb⟩) (fun ψ' hψ' => g2.mono hψ' (fun b hb => ⟨hb, rfl⟩) (fun _ _ => rfl))
  refine ⟨ψ', prot, k1, k2, ?_, fun n j hne => (k5 n j hne).imp id fun ⟨q1, q2⟩ => ⟨q1, by simp [q2]⟩⟩
  rw [hv]
  exact .own d k len loc k3
end

def St.frozen (st st' : St) (n kk : Nat) (es : List AVal) : Prop := (∀ t, st'.get t = .any ∨ st'.get t = st.get t ∨ (st.get t = .own n kk es.length ∧ st'.get t = .ro es)) ∧ st'.obj n = none ∧ ∀ m, m ≠ n → st'.obj m = none ∨ st'.obj m = st.obj m
end Go.Proofs.YtboddbheljenhaaGreatDoor
