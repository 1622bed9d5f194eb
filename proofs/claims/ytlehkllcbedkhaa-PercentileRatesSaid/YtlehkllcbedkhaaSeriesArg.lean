/-
  An argument of type Series, laid open.
-/
import Derived.Test.YtlehkllcbedkhaaFlat
import Derived.Test.YtlehkllcbedkhaaOpen
import Derived.Test.YtlehkllcbedkhaaRows
import Derived.Deep.Fields
namespace Go.Proofs.Ytlehkllcbedkhaa
open Go.ChangeShapes Go.WideShapes Go.ChangeAt Go.RowKit Go.Deep
theorem list4 {α : Type} {l : List α} (h : l.length = 4) : ∃ a b c d, l = [a, b, c, d] := by
  match l, h with
  | [a, b, c, d], _ => exact ⟨a, b, c, d, rfl⟩
theorem open_series {H : Type} {enc : TypeId × Value → H} {W : World} {r : Reach} {b0 : Nat} {v : Value} {dd : DataW H} {p : List MemPlace} (hval : Value.okWide Try.prog W r b0 24 v) (h : DataW.Trod enc Try.prog W 0 (fun _ => true) true 24 v dd p) :
    ∃ (po se : Int) (A : Option Addr) (n c : Nat) (zs : List Int) (B : Option Addr) (k e : Nat) (ys : List Int), v = .agg #[.int .i64 po, .int .i64 se, .slice A n c, .slice B k e] ∧ Ints .i64 W A n c zs ∧ Ints .i64 W B k e ys := by
  obtain ⟨cs, rfl, hl, hc⟩ := open_cells (ts := [3, 3, 22, 22]) (by kernel_rfl) (by kernel_rfl) (by kernel_rfl) hval
  obtain ⟨x0, x1, x2, x3, rfl⟩ := list4 hl
  obtain ⟨y0, h0, k0⟩ := hc 0 _ rfl
  obtain ⟨y1, h1, k1⟩ := hc 1 _ rfl
  obtain ⟨y2, h2, k2⟩ := hc 2 _ rfl
  obtain ⟨y3, h3, k3⟩ := hc 3 _ rfl
  simp at h0 h1 h2 h3
  subst h0; subst h1; subst h2; subst h3
  obtain ⟨z0, rfl, -⟩ := cell_int Try.underlying3 k0
  obtain ⟨z1, rfl, -⟩ := cell_int Try.underlying3 k1
  have hv2 : Value.okWide Try.prog W r b0 22 x2 := by
    unfold Value.okWide
    rw [Try.underlying22]
    exact k2
  have hv3 : Value.okWide Try.prog W r b0 22 x3 := by
    unfold Value.okWide
    rw [Try.underlying22]
    exact k3
  obtain ⟨A, n, c, rfl⟩ := okWide_slice Try.underlying22 hv2
  obtain ⟨B, k, e, rfl⟩ := okWide_slice Try.underlying22 hv3
  obtain ⟨fuel, hf⟩ := h
  obtain ⟨xs, m, -, -, -, hx, hg⟩ := DataW.trod_struct Try.underlying24 hf
  have hcl : Try.prog.cellsOf 22 = 1 := by kernel_rfl
  have h4 := hg 2 _ rfl
  change DataW.trod enc Try.prog W 0 (fun _ => true) true m 22 (List.take (Try.prog.cellsOf 22) [.slice A n c, .slice B k e]) = _ at h4
  rw [hcl] at h4
  have h5 := hg 3 _ rfl
  change DataW.trod enc Try.prog W 0 (fun _ => true) true m 22 (List.take (Try.prog.cellsOf 22) [.slice B k e]) = _ at h5
  rw [hcl] at h5
  obtain ⟨⟨d8, p8⟩, g5⟩ : ∃ z, xs[2]? = some z := ⟨_, List.getElem?_eq_getElem (by rw [hx]; decide)⟩
  rw [g5] at h4
  obtain ⟨⟨d9, p9⟩, g6⟩ : ∃ z, xs[3]? = some z := ⟨_, List.getElem?_eq_getElem (by rw [hx]; decide)⟩
  rw [g6] at h5
  obtain ⟨A', n', c', zs, e1, q1⟩ := open_ints_any (enc := enc) Try.underlying22 Try.underlying3 (by kernel_rfl) hv2 ⟨m, h4⟩
  obtain ⟨B', k', e', ys, e2, q2⟩ := open_ints_any (enc := enc) Try.underlying22 Try.underlying3 (by kernel_rfl) hv3 ⟨m, h5⟩
  injection e1 with e3 e4 e5
  injection e2 with f3 f4 f5
  subst e3; subst e4; subst e5; subst f3; subst f4; subst f5
  exact ⟨z0, z1, _, _, _, zs, _, _, _, ys, rfl, q1, q2⟩
end Go.Proofs.Ytlehkllcbedkhaa
