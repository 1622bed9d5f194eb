/-
  An argument of type Addr, laid open.
-/
import Derived.Test.YtogchaijglbjaaaFlat
import Derived.Test.YtogchaijglbjaaaRows
namespace Go.Proofs.Ytogchaijglbjaaa
theorem open_addr {W : World} {r : Reach} {base : Nat} {v : Value} (h : Value.okWide Try.prog W r base 24 v) : ∃ (b : Bool) (hi lo : Int), v = .agg #[.bool b, .int .u64 hi, .int .u64 lo] ∧ (0 ≤ hi ∧ hi < 18446744073709551616) ∧ (0 ≤ lo ∧ lo < 18446744073709551616) := by
  obtain ⟨cs, rfl, hl, hc⟩ := open_cells (ts := [4, 22, 22]) (by kernel_rfl) (by kernel_rfl) (by kernel_rfl) h
  obtain ⟨x, y, z, rfl⟩ := list3 hl
  obtain ⟨x', h1, h2⟩ := hc 0 _ rfl
  obtain ⟨y', h3, h4⟩ := hc 1 _ rfl
  obtain ⟨z', h5, h6⟩ := hc 2 _ rfl
  simp at h1 h3 h5
  subst h1; subst h3; subst h5
  obtain ⟨b, rfl⟩ := cell_bool Try.underlying4 h2
  obtain ⟨hi, rfl, k1⟩ := cell_int Try.underlying22 h4
  obtain ⟨lo, rfl, k2⟩ := cell_int Try.underlying22 h6
  exact ⟨b, hi, lo, rfl, has_u64 k1, has_u64 k2⟩
end Go.Proofs.Ytogchaijglbjaaa
