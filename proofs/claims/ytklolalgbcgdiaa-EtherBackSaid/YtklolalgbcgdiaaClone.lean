/-
  bytes.Clone, of a slice that lies in memory.
-/
import Derived.Test.YtklolalgbcgdiaaShelf
import Derived.Test.YtklolalgbcgdiaaOpen
namespace Go.Proofs.Ytklolalgbcgdiaa
open Go.RowKit
theorem clone_any {B : Nat} (A : Option Addr) (n c : Nat) (xs : List Int) (w : World) (hx : xs.length = n) (hbig : n ≤ 1000000000) (h : Lies B A (xs.map (Value.int .u8)) w) :
    Calls Try.prog 38 #[.slice A n c] w fun e w' => ∃ v, e = .returned v ∧ w'.ownsRow w.heap.size 5 1 v n (xs.map (Value.int .u8)) ∧ Below w.heap.size w w' := by
  cases A with
  | none =>
    have : n = 0 := by
      rcases Nat.eq_zero_or_pos n with h' | h'
      · exact h'
      · obtain ⟨a, v, h1, -⟩ := h 0 (by simp; omega)
        cases h1
    subst this
    obtain rfl : xs = [] := by cases xs <;> simp_all
    refine (Try.bytes_Clone_nil _ _ _).mono ?_
    rintro e w' ⟨rfl, rfl⟩
    exact ⟨_, rfl, World.ownsRow_nil _ _ _ _, Below.refl _ _⟩
  | some a =>
    refine (Try.bytes_Clone_at a n c xs w hx (by omega) fun i hi => ?_).mono ?_
    · obtain ⟨a', h1, _, h2⟩ := h.int (k := i) (by omega)
      injection h1 with h1
      subst h1; exact h2
    · rintro e w' ⟨v, rfl, h1, _, h2⟩
      exact ⟨v, rfl, h1, h2⟩
end Go.Proofs.Ytklolalgbcgdiaa
