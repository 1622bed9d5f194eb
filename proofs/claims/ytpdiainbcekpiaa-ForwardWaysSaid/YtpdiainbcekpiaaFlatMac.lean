/-
  An argument of type MAC, laid open.
-/
import Derived.Test.YtpdiainbcekpiaaFlat
import Derived.Test.YtpdiainbcekpiaaRows
namespace Go.Proofs.Ytpdiainbcekpiaa
theorem open_mac {W : World} {r : Reach} {base : Nat} {v : Value} (h : Value.okWide Try.prog W r base 23 v) : ∃ a b c d e f : Int, v = .agg #[.int .u8 a, .int .u8 b, .int .u8 c, .int .u8 d, .int .u8 e, .int .u8 f] ∧ ∀ z ∈ [a, b, c, d, e, f], 0 ≤ z ∧ z < 256 := by
  obtain ⟨cs, rfl, hl, hc⟩ := open_cells (ts := [5, 5, 5, 5, 5, 5]) (by kernel_rfl) (by kernel_rfl) (by kernel_rfl) h
  obtain ⟨x0, x1, x2, x3, x4, x5, rfl⟩ := list6 hl
  have key : ∀ (i : Nat) (x : Value), [x0, x1, x2, x3, x4, x5][i]? = some x → i < 6 → ∃ n, x = .int .u8 n ∧ 0 ≤ n ∧ n < 256 := fun i x hx hi => by
    obtain ⟨y, h1, h2⟩ := hc i 5 (by rcases (show i = 0 ∨ i = 1 ∨ i = 2 ∨ i = 3 ∨ i = 4 ∨ i = 5 by omega) with rfl | rfl | rfl | rfl | rfl | rfl <;> rfl)
    rw [hx] at h1
    injection h1 with h1
    subst h1
    obtain ⟨n, h3, h4⟩ := cell_int Try.underlying5 h2
    exact ⟨n, h3, has_u8 h4⟩
  obtain ⟨a, rfl, ha⟩ := key 0 _ rfl (by omega)
  obtain ⟨b, rfl, hb⟩ := key 1 _ rfl (by omega)
  obtain ⟨c, rfl, hc⟩ := key 2 _ rfl (by omega)
  obtain ⟨d, rfl, hd⟩ := key 3 _ rfl (by omega)
  obtain ⟨e, rfl, he⟩ := key 4 _ rfl (by omega)
  obtain ⟨f, rfl, hf⟩ := key 5 _ rfl (by omega)
  refine ⟨a, b, c, d, e, f, rfl, fun z hz => ?_⟩
  simp at hz
  rcases hz with rfl | rfl | rfl | rfl | rfl | rfl <;> assumption
end Go.Proofs.Ytpdiainbcekpiaa
