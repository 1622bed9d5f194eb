/-
  An argument that is a fabric, laid open; and slices of rows of any kind.
-/
import Derived.Test.YtpdiainbcekpiaaFlat
import Derived.Test.YtpdiainbcekpiaaFb13a
import Derived.Test.YtpdiainbcekpiaaLaw
import Derived.Test.YtpdiainbcekpiaaRows
import Derived.Deep.Slices
import Derived.Deep.Fields
import Derived.ChangeSame
import Derived.ChangeArms
import Derived.WideShapes
namespace Go.Proofs.Ytpdiainbcekpiaa
open Go.ChangeShapes Go.WideShapes Go.ChangeAt Go.RowKit Go.Deep
theorem list_of' {α : Type} {p : Nat → α → Prop} : ∀ n : Nat, (∀ i, i < n → ∃ x, p i x) → ∃ l : List α, l.length = n ∧ ∀ i x, l[i]? = some x → p i x
  | 0, _ => ⟨[], rfl, fun i x h => by simp at h⟩
  | n + 1, h => by
    obtain ⟨l, h1, h2⟩ := list_of' n (fun i hi => h i (by omega))
    obtain ⟨x, hx⟩ := h n (by omega)
    refine ⟨l ++ [x], by simp [h1], fun i y hy => ?_⟩
    rcases Nat.lt_or_ge i n with hi | hi
    · rw [List.getElem?_append_left (by omega)] at hy
      exact h2 i y hy
    · rw [List.getElem?_append_right (by omega)] at hy
      have : i = n := by
        rcases Nat.lt_or_ge (i - l.length) 1 with h' | h'
        · omega
        · rw [List.getElem?_eq_none (by simpa using h')] at hy; cases hy
      subst this
      simp [h1] at hy
      subst hy
      exact hx
theorem rows_get {α : Type} (f : α → List Value) (sz : Nat) (hf : ∀ x, (f x).length = sz) : ∀ (l : List α) (m : Nat) (v : Value), (l.flatMap f)[m]? = some v → ∃ i x, l[i]? = some x ∧ i * sz ≤ m ∧ (f x)[m - i * sz]? = some v
  | [], m, v, h => by simp at h
  | x :: l, m, v, h => by
    rw [List.flatMap_cons] at h
    rcases Nat.lt_or_ge m sz with hm | hm
    · rw [List.getElem?_append_left (by rw [hf]; exact hm)] at h
      exact ⟨0, x, rfl, by omega, by simpa using h⟩
    · rw [List.getElem?_append_right (by rw [hf]; exact hm), hf] at h
      obtain ⟨i, y, h2, h3, h4⟩ := rows_get f sz hf l (m - sz) v h
      refine ⟨i + 1, y, by simpa using h2, by rw [Nat.add_mul]; omega, ?_⟩
      have : m - (i + 1) * sz = m - sz - i * sz := by rw [Nat.add_mul]; omega
      rw [this]; exact h4
structure RowsAt {α : Type} (f : α → List Value) (sz : Nat) (W : World) (A : Option Addr) (n c : Nat) (xs : List α) : Prop where
  len : xs.length = n
  cap : n ≤ c
  max : c ≤ maxLen
  nil : A = none → c = 0
  lies : ∀ i x, xs[i]? = some x → ∃ g o, A = some ⟨g, o, none⟩ ∧ g < W.heap.size ∧ ∀ j v, (f x)[j]? = some v → W.cell? ⟨g, o + i * sz + j, none⟩ = some v
theorem vrel_rows {α : Type} {f : α → List Value} {sz : Nat} {W : World} {A : Option Addr} {n c : Nat} {xs : List α} (hf : ∀ x, (f x).length = sz) (F : α → AVal) (hF : ∀ x, (F x).flat = (f x).map .val) (g : RowsAt f sz W A n c xs) (ψ : Ghost) : VRel ψ (· < W.heap.size) W (.ro (xs.map F)) (.slice A n c) := by
  by_cases hn : n = 0
  · subst hn
    obtain rfl : xs = [] := List.eq_nil_of_length_eq_zero g.len
    exact .roNil A c g.nil
  · obtain ⟨x0, h0⟩ : ∃ x, xs[0]? = some x := ⟨_, List.getElem?_eq_getElem (by have := g.len; omega)⟩
    obtain ⟨b, o, rfl, hb, -⟩ := g.lies 0 x0 h0
    have hfl : (xs.map F).flatMap AVal.flat = (xs.flatMap f).map AVal.val := by
      rw [List.flatMap_map, List.map_flatMap]
      congr 1
      funext x
      exact hF x
    have := VRel.ro (ψ := ψ) (prot := (· < W.heap.size)) (w := W) (xs.map F) (xs.flatMap f) b o c (by simpa [g.len] using g.cap) hb (by rw [hfl]; simp) (fun m u hu => by
      obtain ⟨i, x, h1, h2, h3⟩ := rows_get f sz hf xs m u hu
      obtain ⟨g', o', e, -, h4⟩ := g.lies i x h1
      injection e with e
      injection e with e1 e2
      subst e1; subst e2
      have := h4 _ u h3
      rwa [show o + i * sz + (m - i * sz) = o + m by omega] at this) (fun m x u hx hu => by
      rw [hfl, List.getElem?_map, hu] at hx
      injection hx with hx
      subst hx
      exact .val _)
    simpa [g.len] using this
section
variable {H : Type} {enc : TypeId × Value → H} {W : World} {r : Reach} {b0 : Nat}
theorem open_rows {α : Type} {t e : TypeId} (f : α → List Value) (sz : Nat) (hsz : 0 < sz) (hf : ∀ x, (f x).length = sz) (ht : Try.prog.underlying t = some (.slice e)) (hC : Try.prog.cellsOf e = sz) (hel : ∀ (fuel : Nat) (cs : List Value) (y : DataW H × List MemPlace), cs.length = sz → DataW.trod enc Try.prog W 0 (fun _ => true) true fuel e cs = some y → ∃ x, cs = f x) {v : Value} {fuel : Nat} {y : DataW H × List MemPlace} (h : DataW.trod enc Try.prog W 0 (fun _ => true) true fuel t [v] = some y) :
    ∃ (A : Option Addr) (n c : Nat) (xs : List α), v = .slice A n c ∧ RowsAt f sz W A n c xs := by
  rcases open_slice ht h with ⟨h1, -⟩ | ⟨a, len, cap, m, n, D, Pl, h1, -, h3, h4, h5, -, h6⟩
  · injection h1 with h1
    exact ⟨none, 0, 0, [], h1, rfl, Nat.le_refl _, Nat.zero_le _, fun _ => rfl, fun i x hx => by simp at hx⟩
  · injection h1 with h1
    simp at h5
    have hm : len ≤ m := by rw [h5]; exact h3
    obtain ⟨xs, hl, hh⟩ := list_of' (p := fun i (x : α) => ∃ g o, a = ⟨g, o, none⟩ ∧ g < W.heap.size ∧ ∀ j v, (f x)[j]? = some v → W.cell? ⟨g, o + i * sz + j, none⟩ = some v) len (fun i hi => by
      obtain ⟨cs', k1, k2⟩ := h6 i (by omega)
      rw [hC] at k1
      obtain ⟨-, k3, k4⟩ := World.cells?_some k1
      obtain ⟨x, rfl⟩ := hel _ _ _ k3 k2
      have hx0 : ∃ u, (f x)[0]? = some u := ⟨_, List.getElem?_eq_getElem (by rw [hf]; exact hsz)⟩
      obtain ⟨u0, hu0⟩ := hx0
      have c0 := k4 0 (by omega)
      rw [Go.Deep.add_add, hu0] at c0
      obtain ⟨g, o, s⟩ := a
      have hs0 : s = none := by
        obtain ⟨cs2, j1, j2⟩ := h6 0 (by omega)
        rw [hC] at j1
        obtain ⟨-, j3, j4⟩ := World.cells?_some j1
        obtain ⟨x', rfl⟩ := hel _ _ _ j3 j2
        obtain ⟨u1, hu1⟩ : ∃ u, (f x')[0]? = some u := ⟨_, List.getElem?_eq_getElem (by rw [hf]; exact hsz)⟩
        have := j4 0 (by omega)
        rw [Go.Deep.add_add, hu1] at this
        simpa [Addr.add] using World.cell?_spot this
      subst hs0
      rw [Go.WideShapes.add_plain] at c0
      refine ⟨x, g, o, rfl, World.block_lt_of_cell? _ _ c0, fun j v hv => ?_⟩
      have hj : j < sz := by have := (List.getElem?_eq_some_iff.1 hv).1; rwa [hf] at this
      have cj := k4 j hj
      rw [Go.Deep.add_add, hv, Go.WideShapes.add_plain] at cj
      rwa [Nat.add_assoc])
    refine ⟨some a, len, cap, xs, h1, hl, h3, h4, (fun e => by cases e), fun i x hx => ?_⟩
    obtain ⟨g, o, rfl, e1, e2⟩ := hh i x hx
    exact ⟨g, o, rfl, e1, e2⟩
theorem link_cells {cs : List Value} {fuel : Nat} {y : DataW H × List MemPlace} (hl : cs.length = 3) (h : DataW.trod enc Try.prog W 0 (fun _ => true) true fuel 50 cs = some y) : ∃ x : Int × Int × Int, cs = [.int .i64 x.1, .int .i64 x.2.1, .int .i64 x.2.2] := by
  obtain ⟨xs, n, -, -, -, hx, hf⟩ := DataW.trod_struct Try.underlying50 h
  have hc : Try.prog.cellsOf 3 = 1 := by kernel_rfl
  match cs, hl with
  | [c0, c1, c2], _ =>
    have e0 := hf 0 _ rfl
    change DataW.trod enc Try.prog W 0 (fun _ => true) true n 3 (List.take (Try.prog.cellsOf 3) [c0, c1, c2]) = _ at e0
    have e1 := hf 1 _ rfl
    change DataW.trod enc Try.prog W 0 (fun _ => true) true n 3 (List.take (Try.prog.cellsOf 3) [c1, c2]) = _ at e1
    have e2 := hf 2 _ rfl
    change DataW.trod enc Try.prog W 0 (fun _ => true) true n 3 (List.take (Try.prog.cellsOf 3) [c2]) = _ at e2
    rw [hc] at e0 e1 e2
    have q : ∀ i, i < 3 → ∃ z, xs[i]? = some z := fun i hi => ⟨_, List.getElem?_eq_getElem (by rw [hx]; exact hi)⟩
    obtain ⟨z0, h0⟩ := q 0 (by omega)
    obtain ⟨z1, h1⟩ := q 1 (by omega)
    obtain ⟨z2, h2⟩ := q 2 (by omega)
    obtain ⟨n0, k0, -, -⟩ := DataW.trod_int Try.underlying3 (e0.trans h0)
    obtain ⟨n1, k1, -, -⟩ := DataW.trod_int Try.underlying3 (e1.trans h1)
    obtain ⟨n2, k2, -, -⟩ := DataW.trod_int Try.underlying3 (e2.trans h2)
    injection k0 with k0
    injection k1 with k1
    injection k2 with k2
    subst k0 k1 k2
    exact ⟨(n0, n1, n2), rfl⟩
theorem list4' {α : Type} {l : List α} (h : l.length = 4) : ∃ a b c d, l = [a, b, c, d] := by
  match l, h with
  | [a, b, c, d], _ => exact ⟨a, b, c, d, rfl⟩
theorem open_fab {v : Value} {dd : DataW H} {p : List MemPlace} (hval : Value.okWide Try.prog W r b0 28 v) (h : DataW.Trod enc Try.prog W 0 (fun _ => true) true 28 v dd p) :
    ∃ f : FK, f.ls.length ≤ 9223372036854775807 ∧ f.dn.length ≤ 9223372036854775807 ∧ f.dd.length ≤ 9223372036854775807 ∧ ∀ ψ, VRel ψ (· < W.heap.size) W (.agg f.A) v := by
  obtain ⟨cs, rfl, hl, hc⟩ := open_cells (ts := [3, 25, 26, 26]) (by kernel_rfl) (by kernel_rfl) (by kernel_rfl) hval
  obtain ⟨x0, x1, x2, x3, rfl⟩ := list4' hl
  obtain ⟨y0, h0, k0⟩ := hc 0 _ rfl
  simp at h0
  subst h0
  obtain ⟨z0, rfl, -⟩ := cell_int Try.underlying3 k0
  obtain ⟨fuel, hf⟩ := h
  obtain ⟨xs, m, -, -, -, hx, hg⟩ := DataW.trod_struct Try.underlying28 hf
  have hcl : Try.prog.cellsOf 26 = 1 := by kernel_rfl
  have hck : Try.prog.cellsOf 25 = 1 := by kernel_rfl
  have q : ∀ i, i < 4 → ∃ z, xs[i]? = some z := fun i hi => ⟨_, List.getElem?_eq_getElem (by rw [hx]; exact hi)⟩
  obtain ⟨u1, g1⟩ := q 1 (by omega)
  obtain ⟨u2, g2⟩ := q 2 (by omega)
  obtain ⟨u3, g3⟩ := q 3 (by omega)
  have e1 := hg 1 _ rfl
  change DataW.trod enc Try.prog W 0 (fun _ => true) true m 25 (List.take (Try.prog.cellsOf 25) [x1, x2, x3]) = _ at e1
  rw [hck] at e1
  have e2 := hg 2 _ rfl
  change DataW.trod enc Try.prog W 0 (fun _ => true) true m 26 (List.take (Try.prog.cellsOf 26) [x2, x3]) = _ at e2
  rw [hcl] at e2
  have e3 := hg 3 _ rfl
  change DataW.trod enc Try.prog W 0 (fun _ => true) true m 26 (List.take (Try.prog.cellsOf 26) [x3]) = _ at e3
  rw [hcl] at e3
  have hb : ∀ (fuel : Nat) (cs : List Value) (y : DataW H × List MemPlace), cs.length = 1 → DataW.trod enc Try.prog W 0 (fun _ => true) true fuel 4 cs = some y → ∃ x : Bool, cs = [.bool x] := fun fuel cs y _ hh => by
    obtain ⟨b, hb, -⟩ := DataW.trod_bool Try.underlying4 hh
    exact ⟨b, hb⟩
  obtain ⟨A1, n1, c1, ls, rfl, q1⟩ := open_rows (fun x : Int × Int × Int => [.int .i64 x.1, .int .i64 x.2.1, .int .i64 x.2.2]) 3 (by decide) (fun _ => rfl) Try.underlying25 (by kernel_rfl) (fun _ _ _ => link_cells) (e1.trans g1)
  obtain ⟨A2, n2, c2, dn, rfl, q2⟩ := open_rows (fun x : Bool => [.bool x]) 1 (by decide) (fun _ => rfl) Try.underlying26 (by kernel_rfl) hb (e2.trans g2)
  obtain ⟨A3, n3, c3, dd', rfl, q3⟩ := open_rows (fun x : Bool => [.bool x]) 1 (by decide) (fun _ => rfl) Try.underlying26 (by kernel_rfl) hb (e3.trans g3)
  have b1 := q1.len; have b2 := q1.cap; have b3 := q1.max
  have b4 := q2.len; have b5 := q2.cap; have b6 := q2.max
  have b7 := q3.len; have b8 := q3.cap; have b9 := q3.max
  simp only [maxLen] at b3 b6 b9
  refine ⟨⟨z0, ls, dn, dd'⟩, by show ls.length ≤ _; omega, by show dn.length ≤ _; omega, by show dd'.length ≤ _; omega, fun ψ => .agg _ _ rfl fun i x u h1 h2 => ?_⟩
  match i, h1, h2 with
  | 0, h1, h2 => cases h1; cases h2; exact .val _
  | 1, h1, h2 => cases h1; cases h2; exact vrel_rows (f := fun x : Int × Int × Int => [.int .i64 x.1, .int .i64 x.2.1, .int .i64 x.2.2]) (sz := 3) (fun _ => rfl) lkA (fun _ => rfl) q1 ψ
  | 2, h1, h2 => cases h1; cases h2; exact vrel_rows (f := fun x : Bool => [.bool x]) (sz := 1) (fun _ => rfl) (fun b => .val (.bool b)) (fun _ => rfl) q2 ψ
  | 3, h1, h2 => cases h1; cases h2; exact vrel_rows (f := fun x : Bool => [.bool x]) (sz := 1) (fun _ => rfl) (fun b => .val (.bool b)) (fun _ => rfl) q3 ψ
end
end Go.Proofs.Ytpdiainbcekpiaa
