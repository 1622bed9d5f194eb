/-
  A copy that is handed out as a row of the caller's own, out of a row whose address is plain. No program is named here.
-/
import Derived.Test.YtlehkllcbedkhaaAbsP
namespace Go.Proofs.Ytlehkllcbedkhaa
open Go.RowKit
theorem spec_copy_ownP {P : Program} {f : FuncId} {k : IntKind} {t : TypeId} {xs : List Int}
    (h : ∀ (w : World) (A : Option Addr) (n c : Nat), xs.length = n → n ≤ c → (0 < n → ∃ b o, A = some ⟨b, o, none⟩) → Lies w.heap.size A (xs.map (Value.int k)) w → Calls P f #[.slice A n c] w fun e w' => ∃ v, e = .returned v ∧ w'.ownsRow w.heap.size t 1 v n (xs.map (Value.int k)) ∧ Below w.heap.size w w') :
    Spec P f [.ro (ints k xs)] [] (.own 1000 0 xs.length) [(1000, some (0, .row t 1 (ints k xs)))] := by
  intro ψ prot w cargs hgh hrh hsz hargs
  have hk : ∀ b, prot b → b < w.heap.size := fun b hb => (hrh.pr b hb).1
  have hs1 : 0 < cargs.size := by simp at hsz; omega
  obtain ⟨A, n, c, hu, hn, hcap, -, hl⟩ := ro_lies hk (hargs 0 _ cargs[0] rfl (by simp [hs1]))
  obtain rfl : cargs = #[.slice A n c] := by
    apply Array.ext
    · simpa using hsz
    · intro i h1 h2
      have : i = 0 := by simp at h2; omega
      subst this; simpa using hu
  subst hn
  have hplain := ro_plain (hargs 0 _ _ rfl rfl)
  refine Calls.mono (h w A xs.length c rfl hcap hplain hl) ?_
  rintro e w' ⟨v, rfl, ho, hb⟩
  have hlt : ∀ b, v.ownBlock = some b → w.heap.size ≤ b ∧ b < w'.heap.size := fun b hb => ho.lt b hb
  obtain ⟨loc, hloc, ho'⟩ : ∃ loc : Loc, v = .slice (loc.block.map fun b => ⟨b, 0, none⟩) xs.length loc.cap ∧ w'.ownsRow 0 t 1 v xs.length (xs.map (Value.int k)) := by
    obtain ⟨q1, q2⟩ := ho
    rcases q2 with ⟨rfl, h0⟩ | ⟨g, cap, cur, rfl, h1, h2, h3, h4, h5, h6⟩
    · exact ⟨⟨none, 0⟩, by rw [h0]; rfl, q1, .inl ⟨rfl, h0⟩⟩
    · exact ⟨⟨some g, cap⟩, rfl, q1, .inr ⟨g, cap, cur, rfl, Nat.zero_le _, h2, h3, h4, h5, h6⟩⟩
  have hblk : ∀ b, loc.block = some b → w.heap.size ≤ b := fun b hb => (hlt b (by rw [hloc, hb]; rfl)).1
  have hnone : ∀ j, ψ 1000 j = none := fun j => by
    by_cases hx : ψ 1000 j = none
    · exact hx
    · have := (hgh 1000 j hx).2; omega
  let ψ' : Ghost := fun n j => if n = 1000 ∧ j = 0 then some loc else ψ n j
  have hψ' : ψ' 1000 0 = some loc := by simp [ψ']
  have hgrow : ∀ n j l, ψ n j = some l → ψ' n j = some l := fun n j l hl => by
    show (if n = 1000 ∧ j = 0 then some loc else ψ n j) = some l
    rw [if_neg (fun hh => by rw [hh.1, hnone] at hl; cases hl)]
    exact hl
  have hone : ∀ n j o, updW (fun _ => none) [(1000, some (0, AObj.row t 1 (ints k xs)))] n = some (j, o) → n = 1000 ∧ j = 0 ∧ o = .row t 1 (ints k xs) := fun n j o e => by
    by_cases h0 : n = 1000
    · subst h0
      have e2 : some ((0 : Nat), AObj.row t 1 (ints k xs)) = some (j, o) := e
      injection e2 with e2
      injection e2 with e3 e4
      exact ⟨rfl, e3.symm, e4.symm⟩
    · have : (n == 1000) = false := by simpa using h0
      simp [updW, List.lookup, this] at e
  have hp : ∀ b, prot b → prot b ∧ w'.heap[b]? = w.heap[b]? := fun b hb' => ⟨hb', hb.block b (hk b hb')⟩
  refine ⟨v, ψ', prot, rfl, ⟨hb.os, hb.tape, hb.output, hb.size, hgrow, fun _ h => h, fun b hb' => ⟨⟨Nat.lt_of_lt_of_le hb'.1 hb.size, fun n j o l e1 e2 e3 => ?_⟩, hb.block b hb'.1⟩, fun _ h => .inl h⟩, ⟨fun n j o e1 => ?_, fun n n1 j j1 o o1 l l1 e1 e2 hne => ?_, fun b hb' => ⟨Nat.lt_of_lt_of_le (hk b hb') hb.size, fun n j o l e1 e2 e3 => ?_⟩⟩, ?_⟩
  · obtain ⟨rfl, rfl, rfl⟩ := hone n j o e1
    rw [hψ'] at e2; injection e2 with e2; subst e2
    have := hblk b e3
    have := hb'.1
    omega
  · obtain ⟨rfl, rfl, rfl⟩ := hone n j o e1
    refine ⟨loc, hψ', xs.map (Value.int k), ?_, by rw [flat_ints]; exact vrels_zeros k xs⟩
    rw [length_ints, ← hloc]; exact ho'
  · obtain ⟨rfl, -, -⟩ := hone n j o e1
    obtain ⟨rfl, -, -⟩ := hone n1 j1 o1 e2
    exact absurd rfl hne
  · obtain ⟨rfl, rfl, rfl⟩ := hone n j o e1
    rw [hψ'] at e2; injection e2 with e2; subst e2
    have := hblk b e3
    have := hk b hb'
    omega
  · rw [hloc]
    exact .own 1000 0 xs.length loc hψ'
end Go.Proofs.Ytlehkllcbedkhaa
