/-
  Words for the use of XReg's theorem. No program is named here.
-/
import Derived.Test.YtboddbheljenhaaGreatDoorG01
import Derived.Deep.WholeRow
import Derived.Laws.Rows
import Derived.ProofKit
import Derived.ChangeSlices
import Derived.Laws.AppendOwnNone
namespace Go.Proofs.YtboddbheljenhaaGreatDoor
open Go.RowKit

section
variable {P : Program} {ops : Array Oper} {base : Act} {X : Nat → Prop} {I : World → Prop} {E : World → World → Prop} {w0 : World} {Ks : List Kind} {i : Nat} {o : Oper}

abbrev isV (v : Value) : Kind := .fact fun _ u _ => u = v

structure Sees (ops : Array Oper) (base : Act) (i : Nat) (o : Oper) (env : Env) (ρ : Operand → Value) : Prop where
  tmp : ∀ t, (o.looksAt ops).contains t = true → ρ (.tmp t) = slotL ops base (pre ops i) env t (down i)
  const : ∀ v, ρ (.const v) = v
  global : ∀ g, ρ (.global g) = .pointer (some ⟨g, 0, none⟩)
  func : ∀ f, ρ (.func f) = .func (.func f) #[] #[]
theorem Sees.at {env : Env} {ρ : Operand → Value} (h : Sees ops base i o env ρ) (t : Tmp) {v : Value} (hc : (o.looksAt ops).contains t = true) (hv : slotL ops base (pre ops i) env t (down i) = v) : ρ (.tmp t) = v := (h.tmp t hc).trans hv
theorem Sees.of {env : Env} {A : Act} (h : ∀ t ∈ o.looksAt ops, A.eval (.tmp t) = slotL ops base (pre ops i) env t (down i)) : Sees ops base i o env A.eval := ⟨fun t ht => h t (by simpa using ht), fun _ => rfl, fun _ => rfl, fun _ => rfl⟩
def Facts (ops : Array Oper) (w0 : World) (Ks : List Kind) (i : Nat) (env : Env) (W : World) : Prop := ∀ j, pre ops i j = true → (kindAt Ks j).holds w0.heap.size env W j

theorem specs_nil {ks : List Kind} : Specs P ops base X I E w0 Ks i [] ks := trivial

theorem tmp_bool {A : Act} {t : Tmp} {b : Bool} (h : A.eval (.tmp t) = .bool b) : A.tmps[t]? = some (.bool b) := by
  simp only [Act.eval, Array.getD_eq_getD_getElem?] at h
  cases hx : A.tmps[t]? with
  | none => rw [hx] at h; simp [undef] at h
  | some x => rw [hx] at h; simp at h; rw [h]
theorem wanted_is {A : Act} {g : Nat} {b c : Bool} {t : Tmp} (hg : o.guard = some (g, b)) (hd : dstOf ops g = some t) (h : A.eval (.tmp t) = .bool c) : Region.wanted o (yielded ops A.tmps) = (c == b) := by
  have hd' : (ops[g]?).bind (·.dst) = some t := hd
  simp only [Region.wanted, hg, yielded, hd', Option.bind_some, tmp_bool h]
  cases b <;> cases c <;> rfl

end

section
variable {P : Program} {ops : Array Oper} {base : Act} {Q : Exit → Act → World → Prop} {X : Nat → Prop} {I : World → Prop} {w0 : World} {Ks : List Kind}
def Low (X : Nat → Prop) (B : Nat) (W W' : World) : Prop := ∀ k, k < B → ¬ X k → W'.heap[k]? = W.heap[k]?
abbrev isLit (X : Nat → Prop) (B : Nat) (t : TypeId) (cs : Array Value) (n : Nat) : Kind := .fact fun _ v W => ∃ g, v = .slice (some ⟨g, 0, none⟩) n n ∧ (B ≤ g ∧ ¬ X g) ∧ Box g t cs W
abbrev isBox (X : Nat → Prop) (B : Nat) (t : TypeId) (cs : Array Value) : Kind := .fact fun _ v W => ∃ g, v = .pointer (some ⟨g, 0, none⟩) ∧ (B ≤ g ∧ ¬ X g) ∧ Box g t cs W
end

def fillCells (g : Nat) : Nat → List Value → World → World
  | _, [], w => w
  | i, u :: us, w => fillCells g (i + 1) us (w.setCell ⟨g, i, none⟩ u)
end Go.Proofs.YtboddbheljenhaaGreatDoor
namespace Go.Proofs.YtboddbheljenhaaGreatDoor
open Go.RowKit
section
variable {P : Program} {W : World} {Z : Nat} {t : TypeId} {cs us : Array Value}
theorem box_stored (hb : Box Z t cs W) : Box Z t us (W.setRow Z us) := setRow_heap W Z cs us t _ hb
end
end Go.Proofs.YtboddbheljenhaaGreatDoor
namespace Go.Proofs.YtboddbheljenhaaGreatDoor
open Go.ChangeShapes Go.WideShapes Go.ChangeAt Go.RowKit

structure Ints (k : IntKind) (w : World) (A : Option Addr) (n c : Nat) (zs : List Int) : Prop where
  len : zs.length = n
  cap : n ≤ c
  max : c ≤ maxLen
  lies : Lies w.heap.size A (zs.map (Value.int k)) w
  wf : ∀ z ∈ zs, (Lit.int k z).wf = true
  nil : A = none → c = 0

section
variable {H : Type} {enc : TypeId × Value → H} {P : Program} {W : World}
theorem open_ints_any {t e : TypeId} {k : IntKind} {v : Value} {d : DataW H} {p : List MemPlace} {r : Reach} {b0 : Nat} (ht : P.underlying t = some (.slice e)) (he : P.underlying e = some (.int k)) (hc : P.cellsOf e = 1)
    (hval : Value.okWide P W r b0 t v) (h : DataW.Trod enc P W 0 (fun _ => true) true t v d p) : ∃ A n c zs, v = .slice A n c ∧ Ints k W A n c zs := by
  obtain ⟨a0, n0, c0, rfl⟩ := okWide_slice ht hval
  obtain ⟨fuel, hf⟩ := h
  rcases open_ints ht he hc hf with ⟨h1, h2⟩ | ⟨a, len, cap, zs, h1, h2, h3, h4, h5, h6, h7, h8⟩
  · simp [Value.cells] at h1
    obtain ⟨rfl, rfl, rfl⟩ := h1
    exact ⟨none, 0, 0, [], rfl, rfl, Nat.le_refl _, Nat.zero_le _, Lies.nothing, fun z hz => by simp at hz, fun _ => rfl⟩
  · simp [Value.cells] at h1
    obtain ⟨rfl, rfl, rfl⟩ := h1
    simp at h5
    refine ⟨some a, n0, c0, zs.take n0, rfl, by simp; omega, h3, h4, ?_, fun z hz => h8 z (List.mem_of_mem_take hz), fun h => by cases h⟩
    intro i hi
    have hin : i < n0 ∧ i < zs.length := by simp at hi; omega
    have hcell := h7 i hin.2
    refine ⟨a, .int k (zs.getD i 0), rfl, ?_, ?_, hcell⟩
    · have := World.block_lt_of_cell? _ _ hcell
      rwa [block_add] at this
    · rw [List.getElem?_map, List.getElem?_take_of_lt hin.1, List.getElem?_eq_getElem hin.2, List.getD_eq_getElem?_getD, List.getElem?_eq_getElem hin.2]
      rfl
end

section
variable {P : Program} {w : World}
end

theorem Lies.int {B : Nat} {A : Option Addr} {K : IntKind} {zs : List Int} {w : World} (h : Lies B A (zs.map (Value.int K)) w) {k : Nat} (hk : k < zs.length) : ∃ a, A = some a ∧ a.block < B ∧ w.cell? (a.add k) = some (.int K (zs.getD k 0)) := by
  obtain ⟨a, v, h1, h2, h3, h4⟩ := h k (by simpa using hk)
  have e : v = .int K (zs.getD k 0) := by
    rw [List.getElem?_map, List.getElem?_eq_getElem hk] at h3
    rw [List.getD_eq_getElem?_getD, List.getElem?_eq_getElem hk]
    simpa using h3.symm
  exact ⟨a, h1, h2, by rw [h4, e]⟩
theorem Lies.take {B : Nat} {A : Option Addr} {xs : List Value} {w : World} (h : Lies B A xs w) (n : Nat) : Lies B A (xs.take n) w := fun k hk => by
  have hk' : k < n ∧ k < xs.length := by simp at hk; omega
  obtain ⟨a, v, h1, h2, h3, h4⟩ := h k hk'.2
  exact ⟨a, v, h1, h2, by rw [List.getElem?_take_of_lt hk'.1]; exact h3, h4⟩
end Go.Proofs.YtboddbheljenhaaGreatDoor
namespace Go.Proofs.YtboddbheljenhaaGreatDoor
open Go.RowKit
section
variable {P : Program} {w : World}
end
end Go.Proofs.YtboddbheljenhaaGreatDoor
