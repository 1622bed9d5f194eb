/-
  An argument of type Neighbor, laid open.
-/
import Derived.Test.YtogchaijglbjaaaFlat
import Derived.Test.YtogchaijglbjaaaRows
namespace Go.Proofs.Ytogchaijglbjaaa
theorem list12 {α : Type} {l : List α} (h : l.length = 12) : ∃ x0 x1 x2 x3 x4 x5 x6 x7 x8 x9 x10 x11, l = [x0, x1, x2, x3, x4, x5, x6, x7, x8, x9, x10, x11] := by
  match l, h with
  | [x0, x1, x2, x3, x4, x5, x6, x7, x8, x9, x10, x11], _ => exact ⟨x0, x1, x2, x3, x4, x5, x6, x7, x8, x9, x10, x11, rfl⟩
theorem open_nb {W : World} {r : Reach} {base : Nat} {v : Value} (h : Value.okWide Try.prog W r base 28 v) : ∃ (kind flags : Int) (tv : Bool) (th tl : Int) (has : Bool) (l0 l1 l2 l3 l4 l5 : Int), v = .agg #[.int .i64 kind, .int .i64 flags, .bool tv, .int .u64 th, .int .u64 tl, .bool has, .int .u8 l0, .int .u8 l1, .int .u8 l2, .int .u8 l3, .int .u8 l4, .int .u8 l5] ∧ ∀ z ∈ [l0, l1, l2, l3, l4, l5], 0 ≤ z ∧ z < 256 := by
  obtain ⟨cs, rfl, hl, hc⟩ := open_cells (ts := [3, 3, 4, 22, 22, 4, 5, 5, 5, 5, 5, 5]) (by kernel_rfl) (by kernel_rfl) (by kernel_rfl) h
  obtain ⟨x0, x1, x2, x3, x4, x5, x6, x7, x8, x9, x10, x11, rfl⟩ := list12 hl
  obtain ⟨y0, h0, k0⟩ := hc 0 _ rfl
  obtain ⟨y1, h1, k1⟩ := hc 1 _ rfl
  obtain ⟨y2, h2, k2⟩ := hc 2 _ rfl
  obtain ⟨y3, h3, k3⟩ := hc 3 _ rfl
  obtain ⟨y4, h4, k4⟩ := hc 4 _ rfl
  obtain ⟨y5, h5, k5⟩ := hc 5 _ rfl
  obtain ⟨y6, h6, k6⟩ := hc 6 _ rfl
  obtain ⟨y7, h7, k7⟩ := hc 7 _ rfl
  obtain ⟨y8, h8, k8⟩ := hc 8 _ rfl
  obtain ⟨y9, h9, k9⟩ := hc 9 _ rfl
  obtain ⟨y10, h10, k10⟩ := hc 10 _ rfl
  obtain ⟨y11, h11, k11⟩ := hc 11 _ rfl
  simp at h0 h1 h2 h3 h4 h5 h6 h7 h8 h9 h10 h11
  subst h0; subst h1; subst h2; subst h3; subst h4; subst h5; subst h6; subst h7; subst h8; subst h9; subst h10; subst h11
  obtain ⟨z0, rfl, -⟩ := cell_int Try.underlying3 k0
  obtain ⟨z1, rfl, -⟩ := cell_int Try.underlying3 k1
  obtain ⟨z2, rfl⟩ := cell_bool Try.underlying4 k2
  obtain ⟨z3, rfl, -⟩ := cell_int Try.underlying22 k3
  obtain ⟨z4, rfl, -⟩ := cell_int Try.underlying22 k4
  obtain ⟨z5, rfl⟩ := cell_bool Try.underlying4 k5
  obtain ⟨z6, rfl, q6⟩ := cell_int Try.underlying5 k6
  obtain ⟨z7, rfl, q7⟩ := cell_int Try.underlying5 k7
  obtain ⟨z8, rfl, q8⟩ := cell_int Try.underlying5 k8
  obtain ⟨z9, rfl, q9⟩ := cell_int Try.underlying5 k9
  obtain ⟨z10, rfl, q10⟩ := cell_int Try.underlying5 k10
  obtain ⟨z11, rfl, q11⟩ := cell_int Try.underlying5 k11
  refine ⟨z0, z1, z2, z3, z4, z5, z6, z7, z8, z9, z10, z11, rfl, fun z hz => ?_⟩
  simp only [List.mem_cons, List.not_mem_nil, or_false] at hz
  rcases hz with rfl | rfl | rfl | rfl | rfl | rfl
  · exact has_u8 q6
  · exact has_u8 q7
  · exact has_u8 q8
  · exact has_u8 q9
  · exact has_u8 q10
  · exact has_u8 q11
end Go.Proofs.Ytogchaijglbjaaa
