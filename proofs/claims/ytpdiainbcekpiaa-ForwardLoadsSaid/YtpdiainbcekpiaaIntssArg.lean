/-
  An argument that is a slice of slices of numbers, laid open.
-/
import Derived.Test.YtpdiainbcekpiaaFabArg
import Derived.Test.YtpdiainbcekpiaaOpen
import Derived.Test.YtpdiainbcekpiaaFw14m
namespace Go.Proofs.Ytpdiainbcekpiaa
open Go.ChangeShapes Go.WideShapes Go.ChangeAt Go.RowKit Go.Deep
theorem vrel_rows1 {α : Type} {f : α → Value} {W : World} {A : Option Addr} {n c : Nat} {xs : List α} (F : α → AVal) (hF : ∀ x, (F x).flat = [F x]) (g : RowsAt (fun x => [f x]) 1 W A n c xs) (ψ : Ghost) (hv : ∀ x ∈ xs, VRel ψ (· < W.heap.size) W (F x) (f x)) : VRel ψ (· < W.heap.size) W (.ro (xs.map F)) (.slice A n c) := by
  by_cases hn : n = 0
  · subst hn
    obtain rfl : xs = [] := List.eq_nil_of_length_eq_zero g.len
    exact .roNil A c g.nil
  · obtain ⟨x0, h0⟩ : ∃ x, xs[0]? = some x := ⟨_, List.getElem?_eq_getElem (by have := g.len; omega)⟩
    obtain ⟨b, o, rfl, hb, -⟩ := g.lies 0 x0 h0
    have hfl : (xs.map F).flatMap AVal.flat = xs.map F := by
      rw [List.flatMap_map]
      clear g hv h0
      induction xs with
      | nil => rfl
      | cons x xs ih => rw [List.flatMap_cons, hF, ih]; rfl
    have := VRel.ro (ψ := ψ) (prot := (· < W.heap.size)) (w := W) (xs.map F) (xs.map f) b o c (by simpa [g.len] using g.cap) hb (by rw [hfl]; simp) (fun m u hu => by
      rw [List.getElem?_map] at hu
      cases hx : xs[m]? with
      | none => rw [hx] at hu; cases hu
      | some x =>
        rw [hx] at hu
        injection hu with hu
        subst hu
        obtain ⟨g', o', e, -, h4⟩ := g.lies m x hx
        injection e with e
        injection e with e1 e2
        subst e1; subst e2
        have := h4 0 _ rfl
        rwa [Nat.mul_one, Nat.add_zero] at this) (fun m y u hy hu => by
      rw [hfl, List.getElem?_map] at hy
      rw [List.getElem?_map] at hu
      cases hx : xs[m]? with
      | none => rw [hx] at hu; cases hu
      | some x =>
        rw [hx] at hu hy
        injection hu with hu
        injection hy with hy
        subst hu; subst hy
        exact hv x (List.mem_of_getElem? hx))
    simpa [g.len] using this
structure SlI where
  A : Option Addr
  n : Nat
  c : Nat
  zs : List Int
section
variable {H : Type} {enc : TypeId × Value → H} {W : World} {r : Reach} {b0 : Nat}
theorem open_intss {v : Value} {dd : DataW H} {p : List MemPlace} (hval : Value.okWide Try.prog W r b0 42 v) (h : DataW.Trod enc Try.prog W 0 (fun _ => true) true 42 v dd p) :
    ∃ ws : List (List Int), ws.length ≤ 9223372036854775807 ∧ (∀ w ∈ ws, w.length ≤ 9223372036854775807) ∧ ∀ ψ, VRel ψ (· < W.heap.size) W (.ro (rws ws)) v := by
  obtain ⟨a0, n0, c0, rfl⟩ := okWide_slice Try.underlying42 hval
  obtain ⟨fuel, hf⟩ := h
  have hi : ∀ (fuel : Nat) (cs : List Value) (y : DataW H × List MemPlace), cs.length = 1 → DataW.trod enc Try.prog W 0 (fun _ => true) true fuel 3 cs = some y → ∃ x : Int, cs = [.int .i64 x] := fun fuel cs y hl hh => by
    match cs, hl with
    | [c], _ =>
      obtain ⟨n0, k0, -, -⟩ := DataW.trod_int Try.underlying3 hh
      injection k0 with k0
      subst k0
      exact ⟨n0, rfl⟩
  have he : ∀ (fuel : Nat) (cs : List Value) (y : DataW H × List MemPlace), cs.length = 1 → DataW.trod enc Try.prog W 0 (fun _ => true) true fuel 24 cs = some y → ∃ x : {q : SlI // RowsAt (fun z : Int => [.int .i64 z]) 1 W q.A q.n q.c q.zs}, cs = [.slice x.1.A x.1.n x.1.c] := fun fuel cs y hl hh => by
    match cs, hl with
    | [u], _ =>
      obtain ⟨A, n, c, zs, rfl, g⟩ := open_rows (fun z : Int => [.int .i64 z]) 1 (by decide) (fun _ => rfl) Try.underlying24 (by kernel_rfl) hi hh
      exact ⟨⟨⟨A, n, c, zs⟩, g⟩, rfl⟩
  obtain ⟨A, n, c, xs, hx, g⟩ := open_rows (v := .slice a0 n0 c0) (fun x : {q : SlI // RowsAt (fun z : Int => [.int .i64 z]) 1 W q.A q.n q.c q.zs} => [.slice x.1.A x.1.n x.1.c]) 1 (by decide) (fun _ => rfl) Try.underlying42 (by kernel_rfl) he hf
  rw [hx]
  have b1 := g.len; have b2 := g.cap; have b3 := g.max
  simp only [maxLen] at b3
  refine ⟨xs.map fun x => x.1.zs, by rw [List.length_map]; omega, fun w hw => ?_, fun ψ => ?_⟩
  · obtain ⟨x, -, rfl⟩ := List.mem_map.1 hw
    have d1 := x.2.len; have d2 := x.2.cap; have d3 := x.2.max
    simp only [maxLen] at d3
    omega
  · have := vrel_rows1 (f := fun x : {q : SlI // RowsAt (fun z : Int => [.int .i64 z]) 1 W q.A q.n q.c q.zs} => .slice x.1.A x.1.n x.1.c) (fun x => .ro (ints .i64 x.1.zs)) (fun _ => rfl) g ψ (fun x _ => vrel_rows (f := fun z : Int => [.int .i64 z]) (sz := 1) (fun _ => rfl) (fun z => .val (.int .i64 z)) (fun _ => rfl) x.2 ψ)
    unfold rws
    rw [List.map_map]
    exact this
end
end Go.Proofs.Ytpdiainbcekpiaa
