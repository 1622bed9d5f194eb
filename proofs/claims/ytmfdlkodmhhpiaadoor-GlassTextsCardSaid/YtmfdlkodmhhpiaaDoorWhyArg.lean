/-
  An argument of type Why, laid open.
-/
import Derived.Test.YtmfdlkodmhhpiaaDoorFlat
import Derived.Test.YtmfdlkodmhhpiaaDoorRows
namespace Go.Proofs.YtmfdlkodmhhpiaaDoor
theorem list_why {α : Type} {l : List α} (h : l.length = 4) : ∃ x0 x1 x2 x3, l = [x0, x1, x2, x3] := by
  match l, h with
  | [x0, x1, x2, x3], _ => exact ⟨x0, x1, x2, x3, rfl⟩
theorem open_why {W : World} {r : Reach} {base : Nat} {v : Value} (h : Value.okWide Tryd.prog W r base 23 v) : ∃ (e0 : Int) (e1 : Int) (e2 : Int) (e3 : Int), v = .agg #[.int .i64 e0, .int .i64 e1, .int .i64 e2, .int .i64 e3] ∧ (∀ z ∈ ([] : List Int), 0 ≤ z ∧ z < 256) ∧ (∀ z ∈ ([] : List Int), 0 ≤ z ∧ z < 18446744073709551616) ∧ (∀ z ∈ ([e0, e1, e2, e3] : List Int), -9223372036854775808 ≤ z ∧ z ≤ 9223372036854775807) := by
  obtain ⟨cs, rfl, hl, hc⟩ := open_cells (ts := [3, 3, 3, 3]) (by kernel_rfl) (by kernel_rfl) (by kernel_rfl) h
  obtain ⟨x0, x1, x2, x3, rfl⟩ := list_why hl
  obtain ⟨y0, h0, k0⟩ := hc 0 _ rfl
  obtain ⟨y1, h1, k1⟩ := hc 1 _ rfl
  obtain ⟨y2, h2, k2⟩ := hc 2 _ rfl
  obtain ⟨y3, h3, k3⟩ := hc 3 _ rfl
  simp at h0 h1 h2 h3
  subst h0; subst h1; subst h2; subst h3
  obtain ⟨z0, rfl, q0⟩ := cell_int Tryd.underlying3 k0
  obtain ⟨z1, rfl, q1⟩ := cell_int Tryd.underlying3 k1
  obtain ⟨z2, rfl, q2⟩ := cell_int Tryd.underlying3 k2
  obtain ⟨z3, rfl, q3⟩ := cell_int Tryd.underlying3 k3
  refine ⟨z0, z1, z2, z3, rfl, fun z hz => ?_, fun z hz => ?_, fun z hz => ?_⟩
  · cases hz
  · cases hz
  · simp only [List.mem_cons, List.not_mem_nil, or_false] at hz
    rcases hz with rfl | rfl | rfl | rfl
    · exact has_i64 q0
    · exact has_i64 q1
    · exact has_i64 q2
    · exact has_i64 q3
end Go.Proofs.YtmfdlkodmhhpiaaDoor
