/-
  Contracts of the library, by states, where package variables are read; texts as rows. No program is named here.
-/
import Derived.Test.YtmbmodeiikhnkaaGreatDoorG04
import Derived.Test.YtmbmodeiikhnkaaGreatDoorAbsN
namespace Go.Proofs.YtmbmodeiikhnkaaGreatDoor
open Go.RowKit
/-- A value that says nothing of memory. -/
def Timeless (v : AVal) : Prop := ∀ (ψ : Ghost) (prot : Nat → Prop) (w : World) (cv : Value), VRel ψ prot w v cv → ∀ (ψ' : Ghost) (prot' : Nat → Prop) (w' : World), VRel ψ' prot' w' v cv
theorem timeless_val (u : Value) : Timeless (.val u) := fun ψ prot w cv h ψ' prot' w' => by
  have := h.val_eq
  subst this
  exact .val _
theorem timeless_ifc (t : TypeId) : Timeless (.ifc t) := fun ψ prot w cv h ψ' prot' w' => by
  obtain ⟨u, rfl⟩ := h.ifc_inv
  exact .ifc t u
theorem timeless_tuple {vs : List AVal} (h : ∀ v ∈ vs, Timeless v) : Timeless (.tuple vs) := fun ψ prot w cv hv ψ' prot' w' => by
  cases hv with
  | tuple _ us hl hr => exact .tuple _ us hl fun i x u h1 h2 => h x (List.mem_of_getElem? h1) _ _ _ _ (hr i x u h1 h2) _ _ _
theorem timeless_agg {vs : List AVal} (h : ∀ v ∈ vs, Timeless v) : Timeless (.agg vs) := fun ψ prot w cv hv ψ' prot' w' => by
  cases hv with
  | agg _ us hl hr => exact .agg _ us hl fun i x u h1 h2 => h x (List.mem_of_getElem? h1) _ _ _ _ (hr i x u h1 h2) _ _ _
theorem spec_lendT {P : Program} {f : FuncId} {t : TypeId} {sz : Nat} {es args args' : List AVal} {v : AVal} (hv : Timeless v) (hl : args'.length = args.length) (ha : ∀ (i : Nat) (y : AVal), args[i]? = some y → ∃ x, args'[i]? = some x ∧ Frz 0 0 es x y) (h : Spec P f args [] v []) :
    Spec P f args' [(0, some (0, .row t sz es))] v [(0, some (0, .row t sz es))] := by
  intro ψ prot w cargs hgh hrh hsz hargs
  obtain ⟨loc, hψ, h2⟩ := hrh.live 0 0 (.row t sz es) (by simp [updW, List.lookup])
  have hone : ∀ n j o, updW (fun _ => none) [(0, some (0, AObj.row t sz es))] n = some (j, o) → n = 0 ∧ j = 0 ∧ o = .row t sz es := fun n j o e => by
    by_cases h0 : n = 0
    · subst h0
      have e2 : some ((0 : Nat), AObj.row t sz es) = some (j, o) := by simpa [updW, List.lookup] using e
      injection e2 with e2
      injection e2 with e3 e4
      exact ⟨rfl, e3.symm, e4.symm⟩
    · have : (n == 0) = false := by simpa using h0
      simp [updW, List.lookup, this] at e
  have hlive : updW (fun _ => none) [(0, some (0, AObj.row t sz es))] 0 = some (0, .row t sz es) := by simp [updW, List.lookup]
  have hown : ∀ b, loc.block = some b → ¬ unowned ψ (updW (fun _ => none) [(0, some (0, .row t sz es))]) w b := fun b hb hu => hu.2 0 0 _ loc hlive hψ hb
  let prot2 : Nat → Prop := fun b => prot b ∨ loc.block = some b
  have hp2 : ∀ b, prot2 b → b < w.heap.size := fun b hb => hb.elim (fun h => (hrh.pr b h).1) (fun h => h2.inside b h)
  have h2' := h2
  have hor := h2
  have hmono : ∀ b, prot b → prot2 b := fun b hb => .inl hb
  have hro : ∀ u, VRel ψ prot w (.own 0 0 es.length) u → VRel ψ prot2 w (.ro es) u := fun u hu => by
    obtain ⟨loc', hv, hψ'⟩ := hu.own_inv
    rw [hψ] at hψ'; injection hψ' with hψ'; subst hψ'
    obtain ⟨xs, g3, g4, g5⟩ := loc_of_own hor
    rw [hv]
    cases hb : loc.block with
    | none =>
      obtain ⟨q1, q2⟩ := g5 hb
      obtain rfl : es = [] := List.eq_nil_of_length_eq_zero q1
      rw [q2]; exact .roNil _ _ fun _ => rfl
    | some b =>
      obtain ⟨ys, k1, k2⟩ := hor
      refine .ro es xs b 0 loc.cap ?_ (.inr hb) g3.1 (fun i v hi => ?_) fun i x v hx hi => (g3.2 i x v hx hi).mono (fun _ _ _ h => h) fun b hb => ⟨hmono b hb, rfl⟩
      · rw [hb] at k1
        rcases k1.2 with ⟨h, _⟩ | ⟨g, c, cur, h, _, _, hle, _⟩
        · cases h
        · injection h with _ _ e3; rw [e3]; exact hle
      · obtain ⟨ad, q1, q2⟩ := g4 i v hi
        rw [hb] at q1
        simp only [Option.map_some, Option.some.injEq] at q1
        subst q1
        rwa [addr_add0] at q2
  refine Calls.mono (h ψ prot2 w cargs hgh ⟨rh_nil hp2, hrh.vr.mono fun b hb => ⟨.inl hb, rfl⟩⟩ (by rw [hsz, hl]) (fun i y u e1 e2 => ?_)) ?_
  · obtain ⟨x, hx, hf⟩ := ha i y e1
    exact hf.rel hmono hro (hargs i x u hx e2)
  rintro e w' ⟨cv, ψ', prot', rfl, q1, q2, q3⟩
  have hpb : ∀ b, prot b → loc.block ≠ some b := fun b hb hl => hown b hl (hrh.pr b hb)
  have hheap : ∀ b, b < w.heap.size → w'.heap[b]? = w.heap[b]? := fun b hb => (q1.un b (unowned_nil.2 hb)).2
  refine ⟨_, ψ', fun b => prot' b ∧ loc.block ≠ some b, rfl, ⟨q1.os, q1.tape, q1.output, q1.size, q1.gh, fun b hb => ⟨q1.pr b (.inl hb), hpb b hb⟩, fun b hb => ⟨⟨Nat.lt_of_lt_of_le hb.1 q1.size, fun n j o l e1 e2 e3 => ?_⟩, hheap b hb.1⟩, fun b hb => ?_⟩, ⟨fun n j o e1 => ?_, fun n n1 j j1 o o1 l l1 e1 e2 hne => ?_, fun b hb => ⟨(q2.pr b hb.1).1, fun n j o l e1 e2 e3 => ?_⟩⟩, ?_⟩
  · obtain ⟨rfl, rfl, rfl⟩ := hone n j o e1
    rw [q1.gh 0 0 loc hψ] at e2
    injection e2 with e2
    subst e2
    exact hb.2 0 0 _ loc hlive hψ e3
  · rcases q1.new b hb.1 with h3 | h3
    · exact h3.elim .inl fun h3 => absurd h3 hb.2
    · exact .inr fun hu => h3 (unowned_nil.2 hu.1)
  · obtain ⟨rfl, rfl, rfl⟩ := hone n j o e1
    exact ⟨loc, q1.gh 0 0 loc hψ, ORel.mono q1.gh (fun b hb => ⟨⟨q1.pr b (.inl hb), hpb b hb⟩, hheap b (hrh.pr b hb).1⟩) (fun b hb => hheap b (h2'.inside b hb)) h2'⟩
  · obtain ⟨rfl, rfl, rfl⟩ := hone n j o e1
    obtain ⟨rfl, rfl, rfl⟩ := hone n1 j1 o1 e2
    exact absurd rfl hne
  · obtain ⟨rfl, rfl, rfl⟩ := hone n j o e1
    rw [q1.gh 0 0 loc hψ] at e2
    injection e2 with e2
    subst e2
    exact hb.2 e3
  · exact hv _ _ _ _ q3 _ _ _
/-- A contract that answers a value without memory, leaves what was there, and may look at the known variables. -/
theorem spec_belowV {P : Program} {f : FuncId} {args : List AVal} {v : AVal} (hv : Timeless v) (h : ∀ (ψ : Ghost) (prot : Nat → Prop) (w : World) (cargs : Array Value), VarsOk prot w → (∀ b, prot b → b < w.heap.size) → cargs.size = args.length → (∀ (i : Nat) (x : AVal) (v : Value), args[i]? = some x → cargs[i]? = some v → VRel ψ prot w x v) →
    Calls P f cargs w fun e w' => ∃ cv, e = .returned cv ∧ VRel ψ prot w' v cv ∧ Below w.heap.size w w') : Spec P f args [] v [] := by
  intro ψ prot w cargs _ hrh hsz hargs
  refine Calls.mono (h ψ prot w cargs hrh.vr (fun b hb => (hrh.pr b hb).1) hsz hargs) ?_
  rintro e w' ⟨cv, rfl, hr, hb⟩
  exact ⟨cv, ψ, prot, rfl, ⟨hb.os, hb.tape, hb.output, hb.size, fun _ _ _ h => h, fun _ h => h, fun b hb' => ⟨unowned_nil.2 (Nat.lt_of_lt_of_le (unowned_nil.1 hb') hb.size), hb.block b (unowned_nil.1 hb')⟩, fun b hb' => .inl hb'⟩, rh_nil fun b hb' => Nat.lt_of_lt_of_le (hrh.pr b hb').1 hb.size, hv _ _ _ _ hr _ _ _⟩
/-- A contract that leaves what was there, and answers with new memory that nobody writes. -/
theorem spec_fresh {P : Program} {f : FuncId} {args : List AVal} {v : AVal} (h : ∀ (ψ : Ghost) (prot : Nat → Prop) (w : World) (cargs : Array Value), VarsOk prot w → (∀ b, prot b → b < w.heap.size) → cargs.size = args.length → (∀ (i : Nat) (x : AVal) (v : Value), args[i]? = some x → cargs[i]? = some v → VRel ψ prot w x v) →
    Calls P f cargs w fun e w' => ∃ cv, e = .returned cv ∧ VRel ψ (fun b => prot b ∨ (w.heap.size ≤ b ∧ b < w'.heap.size)) w' v cv ∧ Below w.heap.size w w') : Spec P f args [] v [] := by
  intro ψ prot w cargs _ hrh hsz hargs
  refine Calls.mono (h ψ prot w cargs hrh.vr (fun b hb => (hrh.pr b hb).1) hsz hargs) ?_
  rintro e w' ⟨cv, rfl, hr, hb⟩
  exact ⟨cv, ψ, fun b => prot b ∨ (w.heap.size ≤ b ∧ b < w'.heap.size), rfl, ⟨hb.os, hb.tape, hb.output, hb.size, fun _ _ _ h => h, fun _ h => .inl h, fun b hb' => ⟨unowned_nil.2 (Nat.lt_of_lt_of_le (unowned_nil.1 hb') hb.size), hb.block b (unowned_nil.1 hb')⟩, fun b hb' => hb'.elim .inl fun h => .inr fun hu => by have := unowned_nil.1 hu; omega⟩, rh_nil fun b hb' => hb'.elim (fun h => Nat.lt_of_lt_of_le (hrh.pr b h).1 hb.size) fun h => h.2, hr⟩
/-- Of one value: what the call is given. -/
theorem one_arg {ψ : Ghost} {prot : Nat → Prop} {w : World} {cargs : Array Value} {u : Value} (hsz : cargs.size = [AVal.val u].length) (h : ∀ (i : Nat) (x : AVal) (v : Value), [AVal.val u][i]? = some x → cargs[i]? = some v → VRel ψ prot w x v) : cargs = #[u] :=
  vals_of (vs := #[u]) hsz h
/-- A row of texts. -/
def strL (ls : List (List UInt8)) : List AVal := ls.map fun l => .val (bstr l)
@[simp] theorem length_strL (ls : List (List UInt8)) : (strL ls).length = ls.length := by simp [strL]
theorem strL_cons (l : List UInt8) (ls : List (List UInt8)) : strL (l :: ls) = .val (bstr l) :: strL ls := rfl
theorem strL_append (a b : List (List UInt8)) : strL (a ++ b) = strL a ++ strL b := by simp [strL]
theorem strL_get (ls : List (List UInt8)) (i : Nat) : (strL ls)[i]? = (ls[i]?).map fun l => .val (bstr l) := by simp [strL]
@[simp] theorem flat_strL : ∀ ls : List (List UInt8), (strL ls).flatMap AVal.flat = strL ls
  | [] => rfl
  | l :: ls => by rw [strL_cons, List.flatMap_cons, flat_strL ls]; rfl
@[simp] theorem widths_strL (ls : List (List UInt8)) : widths 1 (strL ls) = true := by
  rw [widths, List.all_eq_true]
  intro x hx
  obtain ⟨l, -, rfl⟩ := List.mem_map.1 hx
  rfl
@[simp] theorem one_strL (ls : List (List UInt8)) : ((strL ls).flatMap AVal.flat).all AVal.one = true := by
  rw [flat_strL, List.all_eq_true]
  intro x hx
  obtain ⟨l, -, rfl⟩ := List.mem_map.1 hx
  rfl
@[simp] theorem pures_strL (ls : List (List UInt8)) : AVal.pures (strL ls) = true := AVal.pures_of fun x hx => by
  obtain ⟨l, -, rfl⟩ := List.mem_map.1 hx
  rfl
@[simp] theorem pure_strL (ls : List (List UInt8)) : AVal.pure (.ro (strL ls)) = true := pures_strL ls
/-- A row of texts that nobody writes, where it lies. -/
theorem ro_strL {ψ : Ghost} {prot : Nat → Prop} {w : World} {ls : List (List UInt8)} {v : Value} (h : VRel ψ prot w (.ro (strL ls)) v) (hk : ∀ b, prot b → b < w.heap.size) :
    (ls = [] ∧ ∃ a c, v = .slice a 0 c) ∨ ∃ b o c, v = .slice (some ⟨b, o, none⟩) ls.length c ∧ b < w.heap.size ∧ ls.length ≤ c ∧ ∀ (j : Nat) (x : List UInt8), ls[j]? = some x → w.cell? ⟨b, o + j, none⟩ = some (bstr x) := by
  rcases h.ro_inv with ⟨h0, a0, c0, hv, -⟩ | ⟨vs, b, off, cap, hv, hp, h4, h5, hcp⟩
  · refine .inl ⟨?_, a0, c0, hv⟩
    cases ls with
    | nil => rfl
    | cons l ls => cases h0
  · refine .inr ⟨b, off, cap, by rw [hv, length_strL], hk b hp, by rw [← length_strL]; exact hcp, fun j x hj => ?_⟩
    rw [flat_strL] at h4
    have hl : j < vs.length := by rw [h4.1, length_strL]; exact (List.getElem?_eq_some_iff.1 hj).1
    have e1 : vs[j]? = some vs[j] := List.getElem?_eq_getElem hl
    have e2 := (h4.2 j (.val (bstr x)) vs[j] (by rw [strL_get, hj]; rfl) e1).val_eq
    rw [h5 j _ e1, e2]
/-- A new row of texts in a block of its own, as one that nobody writes. -/
theorem vrel_new_strL {ψ : Ghost} {prot : Nat → Prop} {w : World} {ls : List (List UInt8)} {b c : Nat} {cs : Array Value} {t : TypeId} {fr : Nat × Nat} (hb : prot b) (hh : w.heap[b]? = some (.cells cs t fr)) (hcs : cs = (ls.map bstr).toArray) (hc : ls.length ≤ c) :
    VRel ψ prot w (.ro (strL ls)) (.slice (some ⟨b, 0, none⟩) ls.length c) := by
  subst hcs
  rw [← length_strL]
  refine .ro (strL ls) (ls.map bstr) b 0 c (by rw [length_strL]; exact hc) hb (by rw [flat_strL, length_strL, List.length_map]) (fun i v hi => ?_) fun i x v h1 h2 => ?_
  · simp only [World.cell?, hh, Nat.zero_add]
    simpa using hi
  · rw [flat_strL, strL_get] at h1
    rw [List.getElem?_map] at h2
    cases hl : ls[i]? with
    | none => rw [hl] at h1; cases h1
    | some l =>
      rw [hl] at h1 h2
      cases h1; cases h2
      exact .val _
end Go.Proofs.YtmbmodeiikhnkaaGreatDoor
