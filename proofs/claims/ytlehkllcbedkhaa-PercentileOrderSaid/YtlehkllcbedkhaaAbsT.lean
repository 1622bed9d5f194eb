/-
  Walks by states: a function that writes into the row that it is given, and keeps its length.
-/
import Derived.Test.YtlehkllcbedkhaaAbsP
namespace Go.Proofs.Ytlehkllcbedkhaa
open Go.RowKit
theorem spec_inplace {P : Program} {f : FuncId} {k : IntKind} {t : TypeId} {xs ys : List Int} {len : Nat} (hlen : len = xs.length) (hy : ys.length = xs.length)
    (h : ∀ (w : World) (v : Value), w.ownsRow 0 t 1 v xs.length (xs.map (Value.int k)) → Calls P f #[v] w fun e w' => e = .returned (.tuple #[]) ∧ w.grownBy w' v.ownBlock ∧ w'.ownsRow 0 t 1 v xs.length (ys.map (Value.int k))) :
    Spec P f [.own 0 0 len] [(0, some (0, .row t 1 (ints k xs)))] (.tuple []) [(0, some (0, .row t 1 (ints k ys)))] := by
  subst hlen
  intro ψ prot w cargs hgh hrh hsz hargs
  have hs1 : cargs.size = 1 := by simpa using hsz
  obtain ⟨loc, hu, hψ⟩ := (hargs 0 _ cargs[0] rfl (by simp [hs1])).own_inv
  obtain ⟨loc', h1, h2⟩ := hrh.live 0 0 (.row t 1 (ints k xs)) rfl
  rw [hψ] at h1; injection h1 with h1; subst h1
  have hone : ∀ (zs : List Int) n j o, updW (fun _ => none) [(0, some (0, AObj.row t 1 (ints k zs)))] n = some (j, o) → n = 0 ∧ j = 0 ∧ o = .row t 1 (ints k zs) := fun zs n j o e => by
    by_cases h0 : n = 0
    · subst h0
      have e2 : some ((0 : Nat), AObj.row t 1 (ints k zs)) = some (j, o) := e
      injection e2 with e2
      injection e2 with e3 e4
      exact ⟨rfl, e3.symm, e4.symm⟩
    · have : (n == 0) = false := by simpa using h0
      simp [updW, List.lookup, this] at e
  obtain ⟨vs, g1, g2⟩ := h2
  have hl : xs.map (Value.int k) = vs := by
    rw [flat_ints] at g2
    apply List.ext_getElem
    · have := g2.1; simp at this; simpa using this.symm
    · intro i e1 e2
      have hi : i < xs.length := by simpa using e1
      have := (g2.2 i (.val (.int k xs[i])) vs[i] (by rw [ints_get]; simp [hi]) (List.getElem?_eq_getElem e2)).val_eq
      simp [this]
  subst hl
  obtain rfl : cargs = #[.slice (loc.block.map fun b => ⟨b, 0, none⟩) xs.length loc.cap] := by
    apply Array.ext
    · simpa using hs1
    · intro i e1 e2
      obtain rfl : i = 0 := by omega
      exact hu
  simp only [length_ints] at g1
  refine Calls.mono (h w _ g1) ?_
  rintro e w' ⟨rfl, gb, go⟩
  have hob : ∀ b, (Value.slice (loc.block.map fun b => (⟨b, 0, none⟩ : Addr)) xs.length loc.cap).ownBlock = some b → loc.block = some b := fun b e => by
    cases hq : loc.block with
    | none => rw [hq] at e; cases e
    | some g => rw [hq] at e; exact e
  refine ⟨.tuple #[], ψ, prot, rfl, ⟨gb.os, gb.tape, gb.output, gb.size, fun _ _ _ h => h, fun _ h => h, fun b hb => ⟨⟨Nat.lt_of_lt_of_le hb.1 gb.size, fun n j o l e1 e2 e3 => ?_⟩, gb.block b hb.1 fun e => ?_⟩, fun b hb => .inl hb⟩, ⟨fun n j o e1 => ?_, fun n n1 j j1 o o1 l l1 e1 e2 hne => ?_, fun b hb => ⟨Nat.lt_of_lt_of_le (hrh.pr b hb).1 gb.size, fun n j o l e1 e2 e3 => ?_⟩⟩, .tuple _ _ rfl fun i x v h1 => by simp at h1⟩
  · obtain ⟨rfl, rfl, rfl⟩ := hone ys n j o e1
    rw [hψ] at e2
    injection e2 with e2
    subst e2
    exact hb.2 0 0 _ loc rfl hψ e3
  · exact hb.2 0 0 _ loc rfl hψ (hob b e.symm)
  · obtain ⟨rfl, rfl, rfl⟩ := hone ys n j o e1
    refine ⟨loc, hψ, ys.map (Value.int k), ?_, ?_⟩
    · simp only [length_ints, hy]
      exact go
    · rw [flat_ints, show ints k ys = (ys.map (Value.int k)).map AVal.val by simp [ints]]
      exact VRels.vals
  · obtain ⟨rfl, -, -⟩ := hone ys n j o e1
    obtain ⟨rfl, -, -⟩ := hone ys n1 j1 o1 e2
    exact absurd rfl hne
  · obtain ⟨rfl, rfl, rfl⟩ := hone ys n j o e1
    rw [hψ] at e2
    injection e2 with e2
    subst e2
    exact (hrh.pr b hb).2 0 0 _ loc rfl hψ e3
end Go.Proofs.Ytlehkllcbedkhaa
