/-
  A function of the library that copies a slice of numbers, as a function by states: the copy never changes. No program is named here.
-/
import Derived.Test.YtojapodjlpffdaaAbsMore
import Derived.Test.YtojapodjlpffdaaAbsEnds
namespace Go.Proofs.Ytojapodjlpffdaa
open Go.RowKit
theorem lies_of_ints {ψ : Ghost} {prot : Nat → Prop} {k : IntKind} {w : World} {xs : List Int} {A : Option Addr} {vs : List Value} (h1 : VRels ψ prot w (ints k xs) vs) (h2 : ∀ j u, vs[j]? = some u → ∃ ad : Addr, A = some ad ∧ ad.block < w.heap.size ∧ w.cell? (ad.add j) = some u) : Lies w.heap.size A (xs.map (Value.int k)) w := fun j hj => by
  have hjl : j < xs.length := by simpa using hj
  have hjv : j < vs.length := by rw [h1.1]; simpa using hjl
  have q1 : vs[j]? = some vs[j] := List.getElem?_eq_getElem hjv
  have q2 := (h1.2 j (.val (.int k xs[j])) vs[j] (by rw [ints_get]; simp [hjl]) q1).val_eq
  obtain ⟨ad, q3, q4, q5⟩ := h2 j _ q1
  exact ⟨ad, vs[j], q3, q4, by rw [q2]; simp [hjl], q5⟩
/-- A slice of numbers that does not change, as the library's contracts want it. -/
theorem ro_lies {ψ : Ghost} {prot : Nat → Prop} {k : IntKind} {w : World} {xs : List Int} {u : Value} (hp : ∀ b, prot b → b < w.heap.size) (h : VRel ψ prot w (.ro (ints k xs)) u) : ∃ A n c, u = .slice A n c ∧ xs.length = n ∧ n ≤ c ∧ (A = none → c = 0) ∧ Lies w.heap.size A (xs.map (Value.int k)) w := by
  rcases h.ro_inv with ⟨h0, a0, c0, hv, hc⟩ | ⟨vs, b, off, cap, hv, hb, h4, h5, h6⟩
  · obtain rfl : xs = [] := by cases xs with | nil => rfl | cons x xs => cases h0
    exact ⟨a0, 0, c0, hv, rfl, Nat.zero_le _, hc, fun j hj => by simp at hj⟩
  · rw [flat_ints] at h4
    exact ⟨_, _, cap, hv, by simp, h6, (fun h => nomatch h), lies_of_ints h4 fun j u hj => ⟨_, rfl, hp b hb, by rw [addr_add0]; exact h5 j u hj⟩⟩
theorem ro_fresh {ψ : Ghost} {prot : Nat → Prop} {k : IntKind} {w : World} {B : Nat} {t : TypeId} {v : Value} {xs : List Int} {n : Nat} (h : w.ownsRow B t 1 v n (xs.map (Value.int k))) (hn : xs.length = n) : VRel ψ (fun b => prot b ∨ v.ownBlock = some b) w (.ro (ints k xs)) v := by
  rcases h.2 with ⟨rfl, h0⟩ | ⟨g, cap, cur, rfl, h1, h2, h3, h4, h5, h6⟩
  · obtain rfl : xs = [] := List.eq_nil_of_length_eq_zero (by omega)
    exact .roNil _ _ fun _ => rfl
  · have hl : n = (ints k xs).length := by simp [hn]
    subst hl
    refine .ro (ints k xs) (xs.map (Value.int k)) g 0 cap h3 (.inr rfl) (by rw [flat_ints]; simp) (fun i v hv => ?_) (fun i x v h7 h8 => ?_)
    · have := h.cells (g := g) rfl i v hv
      simpa [addr_add0] using this
    · rw [flat_ints, ints_get] at h7
      rw [List.getElem?_map] at h8
      cases hx : xs[i]? with
      | none => rw [hx] at h7; cases h7
      | some y => rw [hx] at h7 h8; simp only [Option.map_some, Option.some.injEq] at h7 h8; subst h7; subst h8; exact .val _
/-- A function that copies a slice of numbers. -/
theorem spec_copy {P : Program} {f : FuncId} {k : IntKind} {t : TypeId} {xs : List Int}
    (h : ∀ (w : World) (A : Option Addr) (n c : Nat), xs.length = n → Lies w.heap.size A (xs.map (Value.int k)) w → Calls P f #[.slice A n c] w fun e w' => ∃ v, e = .returned v ∧ w'.ownsRow w.heap.size t 1 v n (xs.map (Value.int k)) ∧ Below w.heap.size w w') :
    Spec P f [.ro (ints k xs)] [] (.ro (ints k xs)) [] := by
  intro ψ prot w cargs _ hrh hsz hargs
  have hk : ∀ b, prot b → b < w.heap.size := fun b hb => (hrh.pr b hb).1
  have hs1 : 0 < cargs.size := by simp at hsz; omega
  obtain ⟨A, n, c, hu, hn, -, -, hl⟩ := ro_lies hk (hargs 0 _ cargs[0] rfl (by simp [hs1]))
  obtain rfl : cargs = #[.slice A n c] := by
    apply Array.ext
    · simpa using hsz
    · intro i h1 h2
      have : i = 0 := by simp at h2; omega
      subst this; simpa using hu
  refine Calls.mono (h w A n c hn hl) ?_
  rintro e w' ⟨v, rfl, ho, hb⟩
  have hlt : ∀ b, v.ownBlock = some b → w.heap.size ≤ b ∧ b < w'.heap.size := fun b hb => ho.lt b hb
  refine ⟨v, ψ, fun b => prot b ∨ v.ownBlock = some b, rfl, ⟨hb.os, hb.tape, hb.output, hb.size, fun _ _ _ h => h, fun _ h => .inl h, fun b hb' => ⟨unowned_nil.2 (Nat.lt_of_lt_of_le (unowned_nil.1 hb') hb.size), hb.block b (unowned_nil.1 hb')⟩, fun b hb' => ?_⟩, rh_nil fun b hb' => ?_, ro_fresh ho hn⟩
  · rcases hb' with hb' | hb'
    · exact .inl hb'
    · exact .inr fun hu => Nat.lt_irrefl _ (Nat.lt_of_lt_of_le (unowned_nil.1 hu) (hlt b hb').1)
  · rcases hb' with hb' | hb'
    · exact Nat.lt_of_lt_of_le (hk b hb') hb.size
    · exact (hlt b hb').2
end Go.Proofs.Ytojapodjlpffdaa
