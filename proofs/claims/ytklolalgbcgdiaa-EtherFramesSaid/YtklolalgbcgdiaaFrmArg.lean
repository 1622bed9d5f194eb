/-
  An argument of type Frame, laid open.
-/
import Derived.Test.YtklolalgbcgdiaaFlat
import Derived.Test.YtklolalgbcgdiaaOpen
import Derived.Test.YtklolalgbcgdiaaRows
import Derived.Deep.Fields
namespace Go.Proofs.Ytklolalgbcgdiaa
open Go.ChangeShapes Go.WideShapes Go.ChangeAt Go.RowKit Go.Deep
theorem list15 {α : Type} {l : List α} (h : l.length = 15) : ∃ x0 x1 x2 x3 x4 x5 x6 x7 x8 x9 x10 x11 x12 x13 x14, l = [x0, x1, x2, x3, x4, x5, x6, x7, x8, x9, x10, x11, x12, x13, x14] := by
  match l, h with
  | [x0, x1, x2, x3, x4, x5, x6, x7, x8, x9, x10, x11, x12, x13, x14], _ => exact ⟨x0, x1, x2, x3, x4, x5, x6, x7, x8, x9, x10, x11, x12, x13, x14, rfl⟩
theorem open_frame {H : Type} {enc : TypeId × Value → H} {W : World} {r : Reach} {b0 : Nat} {v : Value} {dd : DataW H} {p : List MemPlace} (hval : Value.okWide Try.prog W r b0 42 v) (h : DataW.Trod enc Try.prog W 0 (fun _ => true) true 42 v dd p) :
    ∃ (z0 z1 z2 z3 z4 z5 z6 z7 z8 z9 z10 z11 z12 z13 : Int) (A : Option Addr) (n c : Nat) (zs : List Int), v = .agg #[.int .u8 z0, .int .u8 z1, .int .u8 z2, .int .u8 z3, .int .u8 z4, .int .u8 z5, .int .u8 z6, .int .u8 z7, .int .u8 z8, .int .u8 z9, .int .u8 z10, .int .u8 z11, .int .i64 z12, .int .i64 z13, .slice A n c] ∧ Ints .u8 W A n c zs := by
  obtain ⟨cs, rfl, hl, hc⟩ := open_cells (ts := [5, 5, 5, 5, 5, 5, 5, 5, 5, 5, 5, 5, 3, 3, 33]) (by kernel_rfl) (by kernel_rfl) (by kernel_rfl) hval
  obtain ⟨x0, x1, x2, x3, x4, x5, x6, x7, x8, x9, x10, x11, x12, x13, x14, rfl⟩ := list15 hl
  obtain ⟨y0, h0, k0⟩ := hc 0 _ rfl
  obtain ⟨y1, h1, k1⟩ := hc 1 _ rfl
  obtain ⟨y2, h2, k2⟩ := hc 2 _ rfl
  obtain ⟨y3, h3, k3⟩ := hc 3 _ rfl
  obtain ⟨y4, h4, k4⟩ := hc 4 _ rfl
  obtain ⟨y5, h5, k5⟩ := hc 5 _ rfl
  obtain ⟨y6, h6, k6⟩ := hc 6 _ rfl
  obtain ⟨y7, h7, k7⟩ := hc 7 _ rfl
  obtain ⟨y8, h8, k8⟩ := hc 8 _ rfl
  obtain ⟨y9, h9, k9⟩ := hc 9 _ rfl
  obtain ⟨y10, h10, k10⟩ := hc 10 _ rfl
  obtain ⟨y11, h11, k11⟩ := hc 11 _ rfl
  obtain ⟨y12, h12, k12⟩ := hc 12 _ rfl
  obtain ⟨y13, h13, k13⟩ := hc 13 _ rfl
  obtain ⟨y14, h14, k14⟩ := hc 14 _ rfl
  simp at h0 h1 h2 h3 h4 h5 h6 h7 h8 h9 h10 h11 h12 h13 h14
  subst h0; subst h1; subst h2; subst h3; subst h4; subst h5; subst h6; subst h7; subst h8; subst h9; subst h10; subst h11; subst h12; subst h13; subst h14
  obtain ⟨z0, rfl, -⟩ := cell_int Try.underlying5 k0
  obtain ⟨z1, rfl, -⟩ := cell_int Try.underlying5 k1
  obtain ⟨z2, rfl, -⟩ := cell_int Try.underlying5 k2
  obtain ⟨z3, rfl, -⟩ := cell_int Try.underlying5 k3
  obtain ⟨z4, rfl, -⟩ := cell_int Try.underlying5 k4
  obtain ⟨z5, rfl, -⟩ := cell_int Try.underlying5 k5
  obtain ⟨z6, rfl, -⟩ := cell_int Try.underlying5 k6
  obtain ⟨z7, rfl, -⟩ := cell_int Try.underlying5 k7
  obtain ⟨z8, rfl, -⟩ := cell_int Try.underlying5 k8
  obtain ⟨z9, rfl, -⟩ := cell_int Try.underlying5 k9
  obtain ⟨z10, rfl, -⟩ := cell_int Try.underlying5 k10
  obtain ⟨z11, rfl, -⟩ := cell_int Try.underlying5 k11
  obtain ⟨z12, rfl, -⟩ := cell_int Try.underlying3 k12
  obtain ⟨z13, rfl, -⟩ := cell_int Try.underlying3 k13
  have hvd : Value.okWide Try.prog W r b0 33 x14 := by
    unfold Value.okWide
    rw [Try.underlying33]
    exact k14
  obtain ⟨A, n, c, rfl⟩ := okWide_slice Try.underlying33 hvd
  obtain ⟨fuel, hf⟩ := h
  obtain ⟨xs, m, -, -, -, hx, hg⟩ := DataW.trod_struct Try.underlying42 hf
  have h4 := hg 4 _ rfl
  have hcl : Try.prog.cellsOf 33 = 1 := by kernel_rfl
  change DataW.trod enc Try.prog W 0 (fun _ => true) true m 33 (List.take (Try.prog.cellsOf 33) [.slice A n c]) = _ at h4
  rw [hcl] at h4
  obtain ⟨⟨d8, p8⟩, h5⟩ : ∃ z, xs[4]? = some z := ⟨_, List.getElem?_eq_getElem (by rw [hx]; decide)⟩
  rw [h5] at h4
  obtain ⟨A', n', c', zs, e, g⟩ := open_ints_any (enc := enc) Try.underlying33 Try.underlying5 (by kernel_rfl) hvd ⟨m, h4⟩
  injection e with e1 e2 e3
  subst e1; subst e2; subst e3
  exact ⟨z0, z1, z2, z3, z4, z5, z6, z7, z8, z9, z10, z11, z12, z13, _, _, _, zs, rfl, g⟩
end Go.Proofs.Ytklolalgbcgdiaa
