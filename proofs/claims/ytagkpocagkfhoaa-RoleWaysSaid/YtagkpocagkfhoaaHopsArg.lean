/-
  An argument that is a slice of hops, laid open.
-/
import Derived.Test.YtagkpocagkfhoaaLaw
import Derived.Test.YtagkpocagkfhoaaConn
import Derived.Test.YtagkpocagkfhoaaRows
import Derived.Deep.Slices
import Derived.Deep.Fields
import Derived.ChangeSame
import Derived.WideShapes
namespace Go.Proofs.Ytagkpocagkfhoaa
open Go.ChangeShapes Go.WideShapes Go.ChangeAt Go.RowKit Go.Deep
theorem list_of {α : Type} {p : Nat → α → Prop} : ∀ n : Nat, (∀ i, i < n → ∃ x, p i x) → ∃ l : List α, l.length = n ∧ ∀ i x, l[i]? = some x → p i x
  | 0, _ => ⟨[], rfl, fun i x h => by simp at h⟩
  | n + 1, h => by
    obtain ⟨l, h1, h2⟩ := list_of n (fun i hi => h i (by omega))
    obtain ⟨x, hx⟩ := h n (by omega)
    refine ⟨l ++ [x], by simp [h1], fun i y hy => ?_⟩
    rcases Nat.lt_or_ge i n with hi | hi
    · rw [List.getElem?_append_left (by omega)] at hy
      exact h2 i y hy
    · rw [List.getElem?_append_right (by omega)] at hy
      have : i = n := by
        rcases Nat.lt_or_ge (i - l.length) 1 with h' | h'
        · omega
        · rw [List.getElem?_eq_none (by simpa using h')] at hy; cases hy
      subst this
      simp [h1] at hy
      subst hy
      exact hx
section
variable {H : Type} {enc : TypeId × Value → H} {W : World} {r : Reach} {b0 : Nat}
theorem hop_cells {cs : List Value} {fuel : Nat} {y : DataW H × List MemPlace} (hl : cs.length = 3) (h : DataW.trod enc Try.prog W 0 (fun _ => true) true fuel 56 cs = some y) : ∃ h : HopZ, cs = [.int .i64 h.src, .int .i64 h.dst, .int .i64 h.role] := by
  obtain ⟨xs, n, -, -, -, hx, hf⟩ := DataW.trod_struct Try.underlying56 h
  have hc : Try.prog.cellsOf 3 = 1 := by kernel_rfl
  match cs, hl with
  | [c0, c1, c2], _ =>
    have key : ∀ (k : Nat) (c : Value), k < 3 → [c0, c1, c2][k]? = some c → DataW.trod enc Try.prog W 0 (fun _ => true) true n 3 [c] = xs[k]? := by
      intro k c hk hc'
      rcases (show k = 0 ∨ k = 1 ∨ k = 2 by omega) with rfl | rfl | rfl
      all_goals
        injection hc' with hc'
        subst hc'
      · have := hf 0 _ rfl; change DataW.trod enc Try.prog W 0 (fun _ => true) true n 3 (List.take (Try.prog.cellsOf 3) (List.drop 0 [c0, c1, c2])) = _ at this; rw [hc] at this; exact this
      · have := hf 1 _ rfl; change DataW.trod enc Try.prog W 0 (fun _ => true) true n 3 (List.take (Try.prog.cellsOf 3) (List.drop 1 [c0, c1, c2])) = _ at this; rw [hc] at this; exact this
      · have := hf 2 _ rfl; change DataW.trod enc Try.prog W 0 (fun _ => true) true n 3 (List.take (Try.prog.cellsOf 3) (List.drop 2 [c0, c1, c2])) = _ at this; rw [hc] at this; exact this
    have e0 := key 0 c0 (by omega) rfl
    have e1 := key 1 c1 (by omega) rfl
    have e2 := key 2 c2 (by omega) rfl
    have q : ∀ i, i < 3 → ∃ z, xs[i]? = some z := fun i hi => ⟨_, List.getElem?_eq_getElem (by rw [hx]; exact hi)⟩
    obtain ⟨z0, h0⟩ := q 0 (by omega)
    obtain ⟨z1, h1⟩ := q 1 (by omega)
    obtain ⟨z2, h2⟩ := q 2 (by omega)
    obtain ⟨n0, k0, -, -⟩ := DataW.trod_int Try.underlying3 (e0.trans h0)
    obtain ⟨n1, k1, -, -⟩ := DataW.trod_int Try.underlying3 (e1.trans h1)
    obtain ⟨n2, k2, -, -⟩ := DataW.trod_int Try.underlying3 (e2.trans h2)
    injection k0 with k0
    injection k1 with k1
    injection k2 with k2
    subst k0 k1 k2
    exact ⟨⟨n0, n1, n2⟩, rfl⟩
theorem open_hops {v : Value} {d : DataW H} {p : List MemPlace} (hval : Value.okWide Try.prog W r b0 28 v) (h : DataW.Trod enc Try.prog W 0 (fun _ => true) true 28 v d p) :
    ∃ (A : Option Addr) (n c : Nat) (hs : List HopZ), v = .slice A n c ∧ hs.length = n ∧ n ≤ c ∧ c ≤ maxLen ∧ HopsAt W.heap.size A hs W := by
  obtain ⟨a0, n0, c0, rfl⟩ := okWide_slice Try.underlying28 hval
  obtain ⟨fuel, hf⟩ := h
  have hC : Try.prog.cellsOf 56 = 3 := by kernel_rfl
  rcases open_slice Try.underlying28 hf with ⟨h1, -⟩ | ⟨a, len, cap, m, n, D, Pl, h1, -, h3, h4, h5, -, h6⟩
  · simp [Value.cells] at h1
    obtain ⟨rfl, rfl, rfl⟩ := h1
    exact ⟨none, 0, 0, [], rfl, rfl, Nat.le_refl _, Nat.zero_le _, fun i x hx => by simp at hx⟩
  · simp [Value.cells] at h1
    obtain ⟨rfl, rfl, rfl⟩ := h1
    simp at h5
    have hm : n0 ≤ m := by rw [h5]; exact h3
    obtain ⟨hs, hl, hh⟩ := list_of (p := fun i (h : HopZ) => ∃ g o, a = ⟨g, o, none⟩ ∧ g < W.heap.size ∧ W.cell? ⟨g, o + i * 3, none⟩ = some (.int .i64 h.src) ∧ W.cell? ⟨g, o + i * 3 + 1, none⟩ = some (.int .i64 h.dst) ∧ W.cell? ⟨g, o + i * 3 + 2, none⟩ = some (.int .i64 h.role)) n0 (fun i hi => by
      obtain ⟨cs', k1, k2⟩ := h6 i (by omega)
      rw [hC] at k1
      obtain ⟨-, k3, k4⟩ := World.cells?_some k1
      obtain ⟨h, rfl⟩ := hop_cells k3 k2
      have c0 := k4 0 (by omega)
      have c1 := k4 1 (by omega)
      have c2 := k4 2 (by omega)
      rw [Go.Deep.add_add] at c0 c1 c2
      obtain ⟨g, o, s⟩ := a
      have hs0 : s = none := by
        obtain ⟨cs2, j1, j2⟩ := h6 0 (by omega)
        rw [hC] at j1
        obtain ⟨-, j3, j4⟩ := World.cells?_some j1
        obtain ⟨h', rfl⟩ := hop_cells j3 j2
        have := j4 0 (by omega)
        rw [Go.Deep.add_add] at this
        simpa [Addr.add] using World.cell?_spot this
      subst hs0
      rw [Go.WideShapes.add_plain] at c0 c1 c2
      refine ⟨h, g, o, rfl, ?_, c0, c1, c2⟩
      have := World.block_lt_of_cell? _ _ c0
      exact this)
    refine ⟨some a, n0, c0, hs, rfl, hl, h3, h4, fun i x hx => ?_⟩
    obtain ⟨g, o, rfl, e1, e2, e3, e4⟩ := hh i x hx
    exact ⟨g, o, rfl, e1, e2, e3, e4⟩
end
end Go.Proofs.Ytagkpocagkfhoaa
