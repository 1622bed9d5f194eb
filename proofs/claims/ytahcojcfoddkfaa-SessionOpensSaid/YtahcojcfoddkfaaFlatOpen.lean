/-
  An argument of type Open, laid open.
-/
import Derived.Test.YtahcojcfoddkfaaFlat
import Derived.Test.YtahcojcfoddkfaaRows
namespace Go.Proofs.Ytahcojcfoddkfaa
theorem open_open {W : World} {r : Reach} {base : Nat} {v : Value} (h : Value.okWide Try.prog W r base 23 v) : ∃ (a i hh r g : Int) (ag : Bool), v = .agg #[.int .i64 a, .int .i64 i, .int .i64 hh, .int .i64 r, .int .i64 g, .bool ag] := by
  obtain ⟨cs, rfl, hl, hc⟩ := open_cells (ts := [3, 3, 3, 3, 3, 4]) (by kernel_rfl) (by kernel_rfl) (by kernel_rfl) h
  obtain ⟨x0, x1, x2, x3, x4, x5, rfl⟩ := list6 hl
  obtain ⟨y0, h0, k0⟩ := hc 0 _ rfl
  obtain ⟨y1, h1, k1⟩ := hc 1 _ rfl
  obtain ⟨y2, h2, k2⟩ := hc 2 _ rfl
  obtain ⟨y3, h3, k3⟩ := hc 3 _ rfl
  obtain ⟨y4, h4, k4⟩ := hc 4 _ rfl
  obtain ⟨y5, h5, k5⟩ := hc 5 _ rfl
  simp at h0 h1 h2 h3 h4 h5
  subst h0; subst h1; subst h2; subst h3; subst h4; subst h5
  obtain ⟨z0, rfl, -⟩ := cell_int Try.underlying3 k0
  obtain ⟨z1, rfl, -⟩ := cell_int Try.underlying3 k1
  obtain ⟨z2, rfl, -⟩ := cell_int Try.underlying3 k2
  obtain ⟨z3, rfl, -⟩ := cell_int Try.underlying3 k3
  obtain ⟨z4, rfl, -⟩ := cell_int Try.underlying3 k4
  obtain ⟨b, rfl⟩ := cell_bool Try.underlying4 k5
  exact ⟨z0, z1, z2, z3, z4, b, rfl⟩
end Go.Proofs.Ytahcojcfoddkfaa
