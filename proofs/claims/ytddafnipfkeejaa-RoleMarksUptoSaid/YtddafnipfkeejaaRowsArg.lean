/-
  Slices of rows of any kind, laid open.
-/
import Derived.Test.YtddafnipfkeejaaFlat
import Derived.Test.YtddafnipfkeejaaRt27z
import Derived.Test.YtddafnipfkeejaaLaw
import Derived.Test.YtddafnipfkeejaaRows
import Derived.Deep.Slices
import Derived.Deep.Fields
import Derived.ChangeSame
import Derived.ChangeArms
import Derived.WideShapes
namespace Go.Proofs.Ytddafnipfkeejaa
open Go.ChangeShapes Go.WideShapes Go.ChangeAt Go.RowKit Go.Deep
theorem bulk_one {H : Type} (d : DataW H) : 1 ≤ Rows.uptoBulk d := by
  cases d with
  | lit l => cases l <;> simp [Rows.uptoBulk]
  | _ => simp [Rows.uptoBulk] <;> omega
theorem bulk_part {H : Type} {d : DataW H} {l : List (DataW H)} (h : d ∈ l) : Rows.uptoBulk d ≤ Rows.uptoBulkAll l := by
  induction l with
  | nil => cases h
  | cons x r ih =>
    simp only [Rows.uptoBulkAll]
    rcases List.mem_cons.1 h with rfl | h
    · omega
    · have := ih h; omega
theorem bulk_length {H : Type} (l : List (DataW H)) : l.length ≤ Rows.uptoBulkAll l := by
  induction l with
  | nil => exact Nat.zero_le _
  | cons x r ih => have := bulk_one x; simp only [Rows.uptoBulkAll, List.length_cons]; omega
theorem bulk_elems {H : Type} (elems spare : List (DataW H)) : Rows.uptoBulkAll elems + 1 ≤ Rows.uptoBulk (.slice elems spare) := by
  simp only [Rows.uptoBulk]; omega
theorem list_of' {α : Type} {p : Nat → α → Prop} : ∀ n : Nat, (∀ i, i < n → ∃ x, p i x) → ∃ l : List α, l.length = n ∧ ∀ i x, l[i]? = some x → p i x
  | 0, _ => ⟨[], rfl, fun i x h => by simp at h⟩
  | n + 1, h => by
    obtain ⟨l, h1, h2⟩ := list_of' n (fun i hi => h i (by omega))
    obtain ⟨x, hx⟩ := h n (by omega)
    refine ⟨l ++ [x], by simp [h1], fun i y hy => ?_⟩
    rcases Nat.lt_or_ge i n with hi | hi
    · rw [List.getElem?_append_left (by omega)] at hy
      exact h2 i y hy
    · rw [List.getElem?_append_right (by omega)] at hy
      have : i = n := by
        rcases Nat.lt_or_ge (i - l.length) 1 with h' | h'
        · omega
        · rw [List.getElem?_eq_none (by simpa using h')] at hy; cases hy
      subst this
      simp [h1] at hy
      subst hy
      exact hx
theorem rows_get {α : Type} (f : α → List Value) (sz : Nat) (hf : ∀ x, (f x).length = sz) : ∀ (l : List α) (m : Nat) (v : Value), (l.flatMap f)[m]? = some v → ∃ i x, l[i]? = some x ∧ i * sz ≤ m ∧ (f x)[m - i * sz]? = some v
  | [], m, v, h => by simp at h
  | x :: l, m, v, h => by
    rw [List.flatMap_cons] at h
    rcases Nat.lt_or_ge m sz with hm | hm
    · rw [List.getElem?_append_left (by rw [hf]; exact hm)] at h
      exact ⟨0, x, rfl, by omega, by simpa using h⟩
    · rw [List.getElem?_append_right (by rw [hf]; exact hm), hf] at h
      obtain ⟨i, y, h2, h3, h4⟩ := rows_get f sz hf l (m - sz) v h
      refine ⟨i + 1, y, by simpa using h2, by rw [Nat.add_mul]; omega, ?_⟩
      have : m - (i + 1) * sz = m - sz - i * sz := by rw [Nat.add_mul]; omega
      rw [this]; exact h4
structure RowsAt {α : Type} (f : α → List Value) (sz : Nat) (W : World) (A : Option Addr) (n c : Nat) (xs : List α) : Prop where
  len : xs.length = n
  cap : n ≤ c
  max : c ≤ maxLen
  nil : A = none → c = 0
  lies : ∀ i x, xs[i]? = some x → ∃ g o, A = some ⟨g, o, none⟩ ∧ g < W.heap.size ∧ ∀ j v, (f x)[j]? = some v → W.cell? ⟨g, o + i * sz + j, none⟩ = some v
theorem vrel_rows {α : Type} {f : α → List Value} {sz : Nat} {W : World} {A : Option Addr} {n c : Nat} {xs : List α} (hf : ∀ x, (f x).length = sz) (F : α → AVal) (hF : ∀ x, (F x).flat = (f x).map .val) (g : RowsAt f sz W A n c xs) (ψ : Ghost) : VRel ψ (· < W.heap.size) W (.ro (xs.map F)) (.slice A n c) := by
  by_cases hn : n = 0
  · subst hn
    obtain rfl : xs = [] := List.eq_nil_of_length_eq_zero g.len
    exact .roNil A c g.nil
  · obtain ⟨x0, h0⟩ : ∃ x, xs[0]? = some x := ⟨_, List.getElem?_eq_getElem (by have := g.len; omega)⟩
    obtain ⟨b, o, rfl, hb, -⟩ := g.lies 0 x0 h0
    have hfl : (xs.map F).flatMap AVal.flat = (xs.flatMap f).map AVal.val := by
      rw [List.flatMap_map, List.map_flatMap]
      congr 1
      funext x
      exact hF x
    have := VRel.ro (ψ := ψ) (prot := (· < W.heap.size)) (w := W) (xs.map F) (xs.flatMap f) b o c (by simpa [g.len] using g.cap) hb (by rw [hfl]; simp) (fun m u hu => by
      obtain ⟨i, x, h1, h2, h3⟩ := rows_get f sz hf xs m u hu
      obtain ⟨g', o', e, -, h4⟩ := g.lies i x h1
      injection e with e
      injection e with e1 e2
      subst e1; subst e2
      have := h4 _ u h3
      rwa [show o + i * sz + (m - i * sz) = o + m by omega] at this) (fun m x u hx hu => by
      rw [hfl, List.getElem?_map, hu] at hx
      injection hx with hx
      subst hx
      exact .val _)
    simpa [g.len] using this
section
variable {H : Type} {enc : TypeId × Value → H} {W : World} {r : Reach} {b0 : Nat}
theorem open_rows {α : Type} {t e : TypeId} (f : α → List Value) (sz : Nat) (hsz : 0 < sz) (hf : ∀ x, (f x).length = sz) (ht : Try.prog.underlying t = some (.slice e)) (hC : Try.prog.cellsOf e = sz) (hel : ∀ (fuel : Nat) (cs : List Value) (y : DataW H × List MemPlace), cs.length = sz → DataW.trod enc Try.prog W 0 (fun _ => true) true fuel e cs = some y → ∃ x, cs = f x) {v : Value} {fuel : Nat} {y : DataW H × List MemPlace} (h : DataW.trod enc Try.prog W 0 (fun _ => true) true fuel t [v] = some y) :
    ∃ (A : Option Addr) (n c : Nat) (xs : List α), v = .slice A n c ∧ RowsAt f sz W A n c xs := by
  rcases open_slice ht h with ⟨h1, -⟩ | ⟨a, len, cap, m, n, D, Pl, h1, -, h3, h4, h5, -, h6⟩
  · injection h1 with h1
    exact ⟨none, 0, 0, [], h1, rfl, Nat.le_refl _, Nat.zero_le _, fun _ => rfl, fun i x hx => by simp at hx⟩
  · injection h1 with h1
    simp at h5
    have hm : len ≤ m := by rw [h5]; exact h3
    obtain ⟨xs, hl, hh⟩ := list_of' (p := fun i (x : α) => ∃ g o, a = ⟨g, o, none⟩ ∧ g < W.heap.size ∧ ∀ j v, (f x)[j]? = some v → W.cell? ⟨g, o + i * sz + j, none⟩ = some v) len (fun i hi => by
      obtain ⟨cs', k1, k2⟩ := h6 i (by omega)
      rw [hC] at k1
      obtain ⟨-, k3, k4⟩ := World.cells?_some k1
      obtain ⟨x, rfl⟩ := hel _ _ _ k3 k2
      have hx0 : ∃ u, (f x)[0]? = some u := ⟨_, List.getElem?_eq_getElem (by rw [hf]; exact hsz)⟩
      obtain ⟨u0, hu0⟩ := hx0
      have c0 := k4 0 (by omega)
      rw [Go.Deep.add_add, hu0] at c0
      obtain ⟨g, o, s⟩ := a
      have hs0 : s = none := by
        obtain ⟨cs2, j1, j2⟩ := h6 0 (by omega)
        rw [hC] at j1
        obtain ⟨-, j3, j4⟩ := World.cells?_some j1
        obtain ⟨x', rfl⟩ := hel _ _ _ j3 j2
        obtain ⟨u1, hu1⟩ : ∃ u, (f x')[0]? = some u := ⟨_, List.getElem?_eq_getElem (by rw [hf]; exact hsz)⟩
        have := j4 0 (by omega)
        rw [Go.Deep.add_add, hu1] at this
        simpa [Addr.add] using World.cell?_spot this
      subst hs0
      rw [Go.WideShapes.add_plain] at c0
      refine ⟨x, g, o, rfl, World.block_lt_of_cell? _ _ c0, fun j v hv => ?_⟩
      have hj : j < sz := by have := (List.getElem?_eq_some_iff.1 hv).1; rwa [hf] at this
      have cj := k4 j hj
      rw [Go.Deep.add_add, hv, Go.WideShapes.add_plain] at cj
      rwa [Nat.add_assoc])
    refine ⟨some a, len, cap, xs, h1, hl, h3, h4, (fun e => by cases e), fun i x hx => ?_⟩
    obtain ⟨g, o, rfl, e1, e2⟩ := hh i x hx
    exact ⟨g, o, rfl, e1, e2⟩
theorem open_rowsB {α : Type} (gb : α → Nat) {t e : TypeId} (f : α → List Value) (sz : Nat) (hsz : 0 < sz) (hf : ∀ x, (f x).length = sz) (ht : Try.prog.underlying t = some (.slice e)) (hC : Try.prog.cellsOf e = sz) (hel : ∀ (fuel : Nat) (cs : List Value) (y : DataW H × List MemPlace), cs.length = sz → DataW.trod enc Try.prog W 0 (fun _ => true) true fuel e cs = some y → ∃ x, cs = f x ∧ gb x ≤ Rows.uptoBulk y.1) {v : Value} {fuel : Nat} {y : DataW H × List MemPlace} (h : DataW.trod enc Try.prog W 0 (fun _ => true) true fuel t [v] = some y) :
    ∃ (A : Option Addr) (n c : Nat) (xs : List α), v = .slice A n c ∧ RowsAt f sz W A n c xs ∧ xs.length ≤ Rows.uptoBulk y.1 ∧ ∀ z ∈ xs, gb z ≤ Rows.uptoBulk y.1 := by
  rcases open_slice ht h with ⟨h1, -⟩ | ⟨a, len, cap, m, n, D, Pl, h1, -, h3, h4, h5, h7, h6⟩
  · injection h1 with h1
    exact ⟨none, 0, 0, [], h1, ⟨rfl, Nat.le_refl _, Nat.zero_le _, fun _ => rfl, fun i x hx => by simp at hx⟩, Nat.zero_le _, fun z hz => by cases hz⟩
  · injection h1 with h1
    simp at h5
    have hm : len ≤ m := by rw [h5]; exact h3
    obtain ⟨xs, hl, hh⟩ := list_of' (p := fun i (x : α) => gb x ≤ Rows.uptoBulk (D i) ∧ ∃ g o, a = ⟨g, o, none⟩ ∧ g < W.heap.size ∧ ∀ j v, (f x)[j]? = some v → W.cell? ⟨g, o + i * sz + j, none⟩ = some v) len (fun i hi => by
      obtain ⟨cs', k1, k2⟩ := h6 i (by omega)
      rw [hC] at k1
      obtain ⟨-, k3, k4⟩ := World.cells?_some k1
      obtain ⟨x, rfl, hgx⟩ := hel _ _ _ k3 k2
      have hx0 : ∃ u, (f x)[0]? = some u := ⟨_, List.getElem?_eq_getElem (by rw [hf]; exact hsz)⟩
      obtain ⟨u0, hu0⟩ := hx0
      have c0 := k4 0 (by omega)
      rw [Go.Deep.add_add, hu0] at c0
      obtain ⟨g, o, s⟩ := a
      have hs0 : s = none := by
        obtain ⟨cs2, j1, j2⟩ := h6 0 (by omega)
        rw [hC] at j1
        obtain ⟨-, j3, j4⟩ := World.cells?_some j1
        obtain ⟨x', rfl, -⟩ := hel _ _ _ j3 j2
        obtain ⟨u1, hu1⟩ : ∃ u, (f x')[0]? = some u := ⟨_, List.getElem?_eq_getElem (by rw [hf]; exact hsz)⟩
        have := j4 0 (by omega)
        rw [Go.Deep.add_add, hu1] at this
        simpa [Addr.add] using World.cell?_spot this
      subst hs0
      rw [Go.WideShapes.add_plain] at c0
      refine ⟨x, hgx, g, o, rfl, World.block_lt_of_cell? _ _ c0, fun j v hv => ?_⟩
      have hj : j < sz := by have := (List.getElem?_eq_some_iff.1 hv).1; rwa [hf] at this
      have cj := k4 j hj
      rw [Go.Deep.add_add, hv, Go.WideShapes.add_plain] at cj
      rwa [Nat.add_assoc])
    have hb : Rows.uptoBulkAll ((List.range len).map D) + 1 ≤ Rows.uptoBulk y.1 := by rw [h7]; exact bulk_elems _ _
    refine ⟨some a, len, cap, xs, h1, ⟨hl, h3, h4, (fun e => by cases e), fun i x hx => ?_⟩, ?_, fun z hz => ?_⟩
    rotate_left
    · have := bulk_length ((List.range len).map D)
      rw [List.length_map, List.length_range] at this
      omega
    · obtain ⟨i, hi, rfl⟩ := List.mem_iff_getElem.1 hz
      have h8 := (hh i _ (List.getElem?_eq_getElem hi)).1
      have h9 := bulk_part (d := D i) (l := (List.range len).map D) (List.mem_map.2 ⟨i, List.mem_range.2 (by omega), rfl⟩)
      omega
    obtain ⟨-, g, o, rfl, e1, e2⟩ := hh i x hx
    exact ⟨g, o, rfl, e1, e2⟩
end
theorem rows_getG {α β : Type} (f : α → List β) (sz : Nat) (hf : ∀ x, (f x).length = sz) : ∀ (l : List α) (m : Nat) (v : β), (l.flatMap f)[m]? = some v → ∃ i x, l[i]? = some x ∧ i * sz ≤ m ∧ m < i * sz + sz ∧ (f x)[m - i * sz]? = some v
  | [], m, v, h => by simp at h
  | x :: l, m, v, h => by
    rw [List.flatMap_cons] at h
    rcases Nat.lt_or_ge m sz with hm | hm
    · rw [List.getElem?_append_left (by rw [hf]; exact hm)] at h
      exact ⟨0, x, rfl, by omega, by omega, by simpa using h⟩
    · rw [List.getElem?_append_right (by rw [hf]; exact hm), hf] at h
      obtain ⟨i, y, h2, h3, h5, h4⟩ := rows_getG f sz hf l (m - sz) v h
      have e : (i + 1) * sz = i * sz + sz := by rw [Nat.add_mul, Nat.one_mul]
      refine ⟨i + 1, y, by simpa using h2, by omega, by omega, ?_⟩
      have : m - (i + 1) * sz = m - sz - i * sz := by omega
      rw [this]; exact h4
theorem rows_lenG {α β : Type} (f : α → List β) (sz : Nat) (hf : ∀ x, (f x).length = sz) : ∀ l : List α, (l.flatMap f).length = l.length * sz
  | [] => by simp
  | x :: l => by rw [List.flatMap_cons, List.length_append, hf, rows_lenG f sz hf l, List.length_cons, Nat.add_mul, Nat.one_mul, Nat.add_comm]
theorem vrel_rowsG {α : Type} {f : α → List Value} {sz : Nat} {W : World} {A : Option Addr} {n c : Nat} {xs : List α} (hf : ∀ x, (f x).length = sz) (F : α → AVal) (hF : ∀ x, (F x).flat.length = sz) (g : RowsAt f sz W A n c xs) (ψ : Ghost)
    (hv : ∀ x ∈ xs, ∀ (j : Nat) (y : AVal) (u : Value), (F x).flat[j]? = some y → (f x)[j]? = some u → VRel ψ (· < W.heap.size) W y u) : VRel ψ (· < W.heap.size) W (.ro (xs.map F)) (.slice A n c) := by
  by_cases hn : n = 0
  · subst hn
    obtain rfl : xs = [] := List.eq_nil_of_length_eq_zero g.len
    exact .roNil A c g.nil
  · obtain ⟨x0, h0⟩ : ∃ x, xs[0]? = some x := ⟨_, List.getElem?_eq_getElem (by have := g.len; omega)⟩
    obtain ⟨b, o, rfl, hb, -⟩ := g.lies 0 x0 h0
    have hfl : (xs.map F).flatMap AVal.flat = xs.flatMap fun x => (F x).flat := by rw [List.flatMap_map]
    have := VRel.ro (ψ := ψ) (prot := (· < W.heap.size)) (w := W) (xs.map F) (xs.flatMap f) b o c (by simpa [g.len] using g.cap) hb (by rw [hfl, rows_lenG _ sz hF, rows_lenG _ sz hf]) (fun m u hu => by
      obtain ⟨i, x, h1, h2, h3⟩ := rows_get f sz hf xs m u hu
      obtain ⟨g', o', e, -, h4⟩ := g.lies i x h1
      injection e with e
      injection e with e1 e2
      subst e1; subst e2
      have := h4 _ u h3
      rwa [show o + i * sz + (m - i * sz) = o + m by omega] at this) (fun m y u hy hu => by
      rw [hfl] at hy
      obtain ⟨i, x, h1, h2, h3, h4⟩ := rows_getG f sz hf xs m u hu
      obtain ⟨i', x', h1', h2', h3', h4'⟩ := rows_getG (fun x => (F x).flat) sz hF xs m y hy
      obtain rfl : i = i' := by
        rcases Nat.lt_trichotomy i i' with q | q | q
        · have : (i + 1) * sz ≤ i' * sz := Nat.mul_le_mul_right sz q
          rw [Nat.add_mul, Nat.one_mul] at this; omega
        · exact q
        · have : (i' + 1) * sz ≤ i * sz := Nat.mul_le_mul_right sz q
          rw [Nat.add_mul, Nat.one_mul] at this; omega
      rw [h1] at h1'
      injection h1' with h1'
      subst h1'
      exact hv x (List.mem_of_getElem? h1) _ _ _ h4' h4)
    simpa [g.len] using this
structure SlI where
  A : Option Addr
  n : Nat
  c : Nat
  zs : List Int
end Go.Proofs.Ytddafnipfkeejaa
