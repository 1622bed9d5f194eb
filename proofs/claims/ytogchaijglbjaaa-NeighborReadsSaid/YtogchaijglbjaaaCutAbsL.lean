/-
  A row that is lent as the last part of a struct. No program is named here.
-/
import Derived.Test.YtogchaijglbjaaaCutAbsG
namespace Go.Proofs.Ytogchaijglbjaaa
open Go.RowKit
theorem spec_lendA {P : Program} {f : FuncId} {k : IntKind} {t : TypeId} {u : Value} {xs : List Int} {len : Nat} (pre : List AVal) (hlen : len = xs.length) (h : Spec P f [.agg (pre ++ [.ro (ints k xs)])] [] (.val u) []) : Spec P f [.agg (pre ++ [.own 0 0 len])] [(0, some (0, .row t 1 (ints k xs)))] (.val u) [(0, some (0, .row t 1 (ints k xs)))] := by
  subst hlen
  intro ψ prot w cargs hgh hrh hsz hargs
  have hs1 : 0 < cargs.size := by simp at hsz; omega
  obtain ⟨us, hus, hur⟩ := (hargs 0 _ cargs[0] rfl (by simp [hs1])).aggs
  have hul : us.toList.length = pre.length + 1 := by have := hur.1; simpa using this
  obtain ⟨lv, hlv⟩ : ∃ lv, us.toList[pre.length]? = some lv := ⟨_, List.getElem?_eq_getElem (by omega)⟩
  obtain ⟨loc, hu, hψ⟩ := (hur.2 pre.length (.own 0 0 xs.length) lv (by simp) hlv).own_inv
  obtain ⟨loc', h1, h2⟩ := hrh.live 0 0 (.row t 1 (ints k xs)) (by simp [updW, List.lookup])
  rw [hψ] at h1; injection h1 with h1; subst h1
  have hone : ∀ n j o, updW (fun _ => none) [(0, some (0, AObj.row t 1 (ints k xs)))] n = some (j, o) → n = 0 ∧ j = 0 ∧ o = .row t 1 (ints k xs) := fun n j o e => by
    by_cases h0 : n = 0
    · subst h0
      have e2 : some ((0 : Nat), AObj.row t 1 (ints k xs)) = some (j, o) := by simpa [updW, List.lookup] using e
      injection e2 with e2
      injection e2 with e3 e4
      exact ⟨rfl, e3.symm, e4.symm⟩
    · have : (n == 0) = false := by simpa using h0
      simp [updW, List.lookup, this] at e
  have hlive : updW (fun _ => none) [(0, some (0, AObj.row t 1 (ints k xs)))] 0 = some (0, .row t 1 (ints k xs)) := by simp [updW, List.lookup]
  have hown : ∀ b, loc.block = some b → ¬ unowned ψ (updW (fun _ => none) [(0, some (0, .row t 1 (ints k xs)))]) w b := fun b hb hu => hu.2 0 0 _ loc hlive hψ hb
  let prot2 : Nat → Prop := fun b => prot b ∨ loc.block = some b
  have hp2 : ∀ b, prot2 b → b < w.heap.size := fun b hb => hb.elim (fun h => (hrh.pr b h).1) (fun h => h2.inside b h)
  have h2' := h2
  obtain ⟨ys, g1, g2⟩ := h2
  have hro : VRel ψ prot2 w (.ro (ints k xs)) lv := by
    rw [hu]
    have hl : (xs.map (Value.int k)) = ys := by
      rw [flat_ints] at g2
      apply List.ext_getElem
      · have := g2.1; simp at this; simpa using this.symm
      · intro i e1 e2
        have hi : i < xs.length := by simpa using e1
        have := (g2.2 i (.val (.int k xs[i])) ys[i] (by rw [ints_get]; simp [hi]) (List.getElem?_eq_getElem e2)).val_eq
        simp [this]
    subst hl
    have e := ro_fresh (ψ := ψ) (prot := prot) g1 (by simp)
    simp only [length_ints] at e
    refine e.mono (fun _ _ _ h => h) fun b hb => ⟨?_, rfl⟩
    rcases hb with hb | hb
    · exact .inl hb
    · cases hq : loc.block with
      | none => rw [hq] at hb; cases hb
      | some g =>
        rw [hq] at hb
        refine .inr ?_
        rw [hq]
        exact hb
  refine Calls.mono (h ψ prot2 w cargs hgh (rh_nil hp2) (by simpa using hsz) (fun i x u e1 e2 => ?_)) ?_
  · match i, e1, e2 with
    | 0, e1, e2 =>
      cases e1
      rw [Array.getElem?_eq_getElem hs1] at e2
      injection e2 with e2
      subst e2
      rw [hus]
      refine VRels.agg ⟨by simpa using hul, fun i x v h1 h2 => ?_⟩
      rcases Nat.lt_trichotomy i pre.length with hi | rfl | hi
      · have e3 : (pre ++ [AVal.own 0 0 xs.length])[i]? = some x := by rw [List.getElem?_append_left hi] at h1 ⊢; exact h1
        exact (hur.2 i x v e3 h2).mono (fun _ _ _ h => h) fun b hb => ⟨.inl hb, rfl⟩
      · have e3 : x = .ro (ints k xs) := by simpa using h1.symm
        subst e3
        rw [hlv] at h2
        injection h2 with h2
        subst h2; exact hro
      · rw [List.getElem?_eq_none (by simp; omega)] at h1; cases h1
    | _ + 1, e1, e2 => cases e1
  rintro e w' ⟨cv, ψ', prot', rfl, q1, q2, q3⟩
  have hcv := q3.val_eq
  subst hcv
  have hpb : ∀ b, prot b → loc.block ≠ some b := fun b hb hl => hown b hl (hrh.pr b hb)
  have hheap : ∀ b, b < w.heap.size → w'.heap[b]? = w.heap[b]? := fun b hb => (q1.un b (unowned_nil.2 hb)).2
  refine ⟨_, ψ', fun b => prot' b ∧ loc.block ≠ some b, rfl, ⟨q1.os, q1.tape, q1.output, q1.size, q1.gh, fun b hb => ⟨q1.pr b (.inl hb), hpb b hb⟩, fun b hb => ⟨⟨Nat.lt_of_lt_of_le hb.1 q1.size, fun n j o l e1 e2 e3 => ?_⟩, hheap b hb.1⟩, fun b hb => ?_⟩, ⟨fun n j o e1 => ?_, fun n n1 j j1 o o1 l l1 e1 e2 hne => ?_, fun b hb => ⟨(q2.pr b hb.1).1, fun n j o l e1 e2 e3 => ?_⟩⟩, .val _⟩
  · obtain ⟨rfl, rfl, rfl⟩ := hone n j o e1
    rw [q1.gh 0 0 loc hψ] at e2
    injection e2 with e2
    subst e2
    exact hb.2 0 0 _ loc hlive hψ e3
  · rcases q1.new b hb.1 with h3 | h3
    · exact h3.elim .inl fun h3 => absurd h3 hb.2
    · exact .inr fun hu => h3 (unowned_nil.2 hu.1)
  · obtain ⟨rfl, rfl, rfl⟩ := hone n j o e1
    exact ⟨loc, q1.gh 0 0 loc hψ, ORel.mono q1.gh (fun b hb => ⟨⟨q1.pr b (.inl hb), hpb b hb⟩, hheap b (hrh.pr b hb).1⟩) (fun b hb => hheap b (h2'.inside b hb)) h2'⟩
  · obtain ⟨rfl, -, -⟩ := hone n j o e1
    obtain ⟨rfl, -, -⟩ := hone n1 j1 o1 e2
    exact absurd rfl hne
  · obtain ⟨rfl, rfl, rfl⟩ := hone n j o e1
    rw [q1.gh 0 0 loc hψ] at e2
    injection e2 with e2
    subst e2
    exact hb.2 e3
end Go.Proofs.Ytogchaijglbjaaa
