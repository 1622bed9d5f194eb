/-
  An argument of type Packet, laid open.
-/
import Derived.Test.YtogchaijglbjaaaCutFlat
import Derived.Test.YtogchaijglbjaaaCutOpen
import Derived.Test.YtogchaijglbjaaaRows
import Derived.Deep.Fields
namespace Go.Proofs.Ytogchaijglbjaaa
open Go.ChangeShapes Go.WideShapes Go.ChangeAt Go.RowKit Go.Deep
theorem list9 {α : Type} {l : List α} (h : l.length = 9) : ∃ a b c d e f g i j, l = [a, b, c, d, e, f, g, i, j] := by
  match l, h with
  | [a, b, c, d, e, f, g, i, j], _ => exact ⟨a, b, c, d, e, f, g, i, j, rfl⟩
theorem open_packet {H : Type} {enc : TypeId × Value → H} {W : World} {r : Reach} {b0 : Nat} {v : Value} {dd : DataW H} {p : List MemPlace} (hval : Value.okWide Try.prog W r b0 39 v) (h : DataW.Trod enc Try.prog W 0 (fun _ => true) true 39 v dd p) :
    ∃ (b1 : Bool) (h1 l1 : Int) (b2 : Bool) (h2 l2 pr ttl : Int) (A : Option Addr) (n c : Nat) (zs : List Int), v = .agg #[.bool b1, .int .u64 h1, .int .u64 l1, .bool b2, .int .u64 h2, .int .u64 l2, .int .i64 pr, .int .i64 ttl, .slice A n c] ∧ Ints .u8 W A n c zs ∧ ttl ≤ 9223372036854775807 := by
  obtain ⟨cs, rfl, hl, hc⟩ := open_cells (ts := [4, 22, 22, 4, 22, 22, 3, 3, 37]) (by kernel_rfl) (by kernel_rfl) (by kernel_rfl) hval
  obtain ⟨x0, x1, x2, x3, x4, x5, x6, x7, x8, rfl⟩ := list9 hl
  obtain ⟨y0, h0, k0⟩ := hc 0 _ rfl
  obtain ⟨y1, h1, k1⟩ := hc 1 _ rfl
  obtain ⟨y2, h2, k2⟩ := hc 2 _ rfl
  obtain ⟨y3, h3, k3⟩ := hc 3 _ rfl
  obtain ⟨y4, h4, k4⟩ := hc 4 _ rfl
  obtain ⟨y5, h5, k5⟩ := hc 5 _ rfl
  obtain ⟨y6, h6, k6⟩ := hc 6 _ rfl
  obtain ⟨y7, h7, k7⟩ := hc 7 _ rfl
  obtain ⟨y8, h8, k8⟩ := hc 8 _ rfl
  simp at h0 h1 h2 h3 h4 h5 h6 h7 h8
  subst h0; subst h1; subst h2; subst h3; subst h4; subst h5; subst h6; subst h7; subst h8
  obtain ⟨z0, rfl⟩ := cell_bool Try.underlying4 k0
  obtain ⟨z1, rfl, -⟩ := cell_int Try.underlying22 k1
  obtain ⟨z2, rfl, -⟩ := cell_int Try.underlying22 k2
  obtain ⟨z3, rfl⟩ := cell_bool Try.underlying4 k3
  obtain ⟨z4, rfl, -⟩ := cell_int Try.underlying22 k4
  obtain ⟨z5, rfl, -⟩ := cell_int Try.underlying22 k5
  obtain ⟨z6, rfl, -⟩ := cell_int Try.underlying3 k6
  obtain ⟨z7, rfl, q7⟩ := cell_int Try.underlying3 k7
  have hv8 : Value.okWide Try.prog W r b0 37 x8 := by
    unfold Value.okWide
    rw [Try.underlying37]
    exact k8
  obtain ⟨A, n, c, rfl⟩ := okWide_slice Try.underlying37 hv8
  obtain ⟨fuel, hf⟩ := h
  obtain ⟨xs, m, -, -, -, hx, hg⟩ := DataW.trod_struct Try.underlying39 hf
  have h4 := hg 4 _ rfl
  have hcl : Try.prog.cellsOf 37 = 1 := by kernel_rfl
  change DataW.trod enc Try.prog W 0 (fun _ => true) true m 37 (List.take (Try.prog.cellsOf 37) [.slice A n c]) = _ at h4
  rw [hcl] at h4
  obtain ⟨⟨d8, p8⟩, h5⟩ : ∃ z, xs[4]? = some z := ⟨_, List.getElem?_eq_getElem (by rw [hx]; decide)⟩
  rw [h5] at h4
  obtain ⟨A', n', c', zs, e, g⟩ := open_ints_any (enc := enc) Try.underlying37 Try.underlying5 (by kernel_rfl) hv8 ⟨m, h4⟩
  injection e with e1 e2 e3
  subst e1; subst e2; subst e3
  exact ⟨z0, z1, z2, z3, z4, z5, z6, z7, _, _, _, zs, rfl, g, (has_i64 q7).2⟩
end Go.Proofs.Ytogchaijglbjaaa
