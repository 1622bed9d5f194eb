/-
  A row that is lent inside an argument, by states: the call reads it, and it is as before. No program is named here.
-/
import Derived.Test.YtddafnipfkeejaaAbsN
namespace Go.Proofs.Ytddafnipfkeejaa
open Go.RowKit
theorem spec_lendG {P : Program} {f : FuncId} {t : TypeId} {sz : Nat} {es args args' : List AVal} {a b : Value} (hl : args'.length = args.length) (ha : ∀ (i : Nat) (y : AVal), args[i]? = some y → ∃ x, args'[i]? = some x ∧ Frz 0 0 es x y) (h : Spec P f args [] (.tuple [.val a, .val b]) []) :
    Spec P f args' [(0, some (0, .row t sz es))] (.tuple [.val a, .val b]) [(0, some (0, .row t sz es))] := by
  intro ψ prot w cargs hgh hrh hsz hargs
  obtain ⟨loc, hψ, h2⟩ := hrh.live 0 0 (.row t sz es) (by simp [updW, List.lookup])
  have hone : ∀ n j o, updW (fun _ => none) [(0, some (0, AObj.row t sz es))] n = some (j, o) → n = 0 ∧ j = 0 ∧ o = .row t sz es := fun n j o e => by
    by_cases h0 : n = 0
    · subst h0
      have e2 : some ((0 : Nat), AObj.row t sz es) = some (j, o) := by simpa [updW, List.lookup] using e
      injection e2 with e2
      injection e2 with e3 e4
      exact ⟨rfl, e3.symm, e4.symm⟩
    · have : (n == 0) = false := by simpa using h0
      simp [updW, List.lookup, this] at e
  have hlive : updW (fun _ => none) [(0, some (0, AObj.row t sz es))] 0 = some (0, .row t sz es) := by simp [updW, List.lookup]
  have hown : ∀ b, loc.block = some b → ¬ unowned ψ (updW (fun _ => none) [(0, some (0, .row t sz es))]) w b := fun b hb hu => hu.2 0 0 _ loc hlive hψ hb
  let prot2 : Nat → Prop := fun b => prot b ∨ loc.block = some b
  have hp2 : ∀ b, prot2 b → b < w.heap.size := fun b hb => hb.elim (fun h => (hrh.pr b h).1) (fun h => h2.inside b h)
  have h2' := h2
  have hor := h2
  have hmono : ∀ b, prot b → prot2 b := fun b hb => .inl hb
  have hro : ∀ u, VRel ψ prot w (.own 0 0 es.length) u → VRel ψ prot2 w (.ro es) u := fun u hu => by
    obtain ⟨loc', hv, hψ'⟩ := hu.own_inv
    rw [hψ] at hψ'; injection hψ' with hψ'; subst hψ'
    obtain ⟨xs, g3, g4, g5⟩ := loc_of_own hor
    rw [hv]
    cases hb : loc.block with
    | none =>
      obtain ⟨q1, q2⟩ := g5 hb
      obtain rfl : es = [] := List.eq_nil_of_length_eq_zero q1
      rw [q2]; exact .roNil _ _ fun _ => rfl
    | some b =>
      obtain ⟨ys, k1, k2⟩ := hor
      refine .ro es xs b 0 loc.cap ?_ (.inr hb) g3.1 (fun i v hi => ?_) fun i x v hx hi => (g3.2 i x v hx hi).mono (fun _ _ _ h => h) fun b hb => ⟨hmono b hb, rfl⟩
      · rw [hb] at k1
        rcases k1.2 with ⟨h, _⟩ | ⟨g, c, cur, h, _, _, hle, _⟩
        · cases h
        · injection h with _ _ e3; rw [e3]; exact hle
      · obtain ⟨ad, q1, q2⟩ := g4 i v hi
        rw [hb] at q1
        simp only [Option.map_some, Option.some.injEq] at q1
        subst q1
        rwa [addr_add0] at q2
  refine Calls.mono (h ψ prot2 w cargs hgh (rh_nil hp2) (by rw [hsz, hl]) (fun i y u e1 e2 => ?_)) ?_
  · obtain ⟨x, hx, hf⟩ := ha i y e1
    exact hf.rel hmono hro (hargs i x u hx e2)
  rintro e w' ⟨cv, ψ', prot', rfl, q1, q2, q3⟩
  have hpb : ∀ b, prot b → loc.block ≠ some b := fun b hb hl => hown b hl (hrh.pr b hb)
  have hheap : ∀ b, b < w.heap.size → w'.heap[b]? = w.heap[b]? := fun b hb => (q1.un b (unowned_nil.2 hb)).2
  refine ⟨_, ψ', fun b => prot' b ∧ loc.block ≠ some b, rfl, ⟨q1.os, q1.tape, q1.output, q1.size, q1.gh, fun b hb => ⟨q1.pr b (.inl hb), hpb b hb⟩, fun b hb => ⟨⟨Nat.lt_of_lt_of_le hb.1 q1.size, fun n j o l e1 e2 e3 => ?_⟩, hheap b hb.1⟩, fun b hb => ?_⟩, ⟨fun n j o e1 => ?_, fun n n1 j j1 o o1 l l1 e1 e2 hne => ?_, fun b hb => ⟨(q2.pr b hb.1).1, fun n j o l e1 e2 e3 => ?_⟩⟩, ?_⟩
  · obtain ⟨rfl, rfl, rfl⟩ := hone n j o e1
    rw [q1.gh 0 0 loc hψ] at e2
    injection e2 with e2
    subst e2
    exact hb.2 0 0 _ loc hlive hψ e3
  · rcases q1.new b hb.1 with h3 | h3
    · exact h3.elim .inl fun h3 => absurd h3 hb.2
    · exact .inr fun hu => h3 (unowned_nil.2 hu.1)
  · obtain ⟨rfl, rfl, rfl⟩ := hone n j o e1
    exact ⟨loc, q1.gh 0 0 loc hψ, ORel.mono q1.gh (fun b hb => ⟨⟨q1.pr b (.inl hb), hpb b hb⟩, hheap b (hrh.pr b hb).1⟩) (fun b hb => hheap b (h2'.inside b hb)) h2'⟩
  · obtain ⟨rfl, rfl, rfl⟩ := hone n j o e1
    obtain ⟨rfl, rfl, rfl⟩ := hone n1 j1 o1 e2
    exact absurd rfl hne
  · obtain ⟨rfl, rfl, rfl⟩ := hone n j o e1
    rw [q1.gh 0 0 loc hψ] at e2
    injection e2 with e2
    subst e2
    exact hb.2 e3
  · cases q3 with
    | tuple _ vs hl hv =>
      refine .tuple _ vs hl fun i x v h1 h2 => ?_
      match i, h1, h2 with
      | 0, h1, h2 =>
        cases h1
        have := (hv 0 _ v rfl h2).val_eq
        subst this
        exact .val _
      | 1, h1, h2 =>
        cases h1
        have := (hv 1 _ v rfl h2).val_eq
        subst this
        exact .val _
      | _ + 2, h1, h2 => cases h1
end Go.Proofs.Ytddafnipfkeejaa
