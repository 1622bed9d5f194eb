/-
  An argument that is the attributes of a route, laid open.
-/
import Derived.Test.YtddafnipfkeejaaRowsArg
import Derived.Test.YtddafnipfkeejaaOpen
namespace Go.Proofs.Ytddafnipfkeejaa
open Go.ChangeShapes Go.WideShapes Go.ChangeAt Go.RowKit Go.Deep
section
variable {H : Type} {enc : TypeId × Value → H} {W : World} {r : Reach} {b0 : Nat}
theorem bulk_of {xs : List (DataW H × List MemPlace)} {y : DataW H × List MemPlace} {pl : List MemPlace} {i : Nat} {z : DataW H × List MemPlace} {n : Nat} (hy : y = (.agg (xs.map (·.1)), pl)) (hz : xs[i]? = some z) (hn : n ≤ Rows.uptoBulk z.1) : n ≤ Rows.uptoBulk y.1 := by
  have : Rows.uptoBulk z.1 ≤ Rows.uptoBulkAll (xs.map (·.1)) := bulk_part (List.mem_map.2 ⟨z, List.mem_of_getElem? hz, rfl⟩)
  rw [hy]
  simp only [Rows.uptoBulk]
  omega
theorem one_int (fuel : Nat) (cs : List Value) (y : DataW H × List MemPlace) (hl : cs.length = 1) (hh : DataW.trod enc Try.prog W 0 (fun _ => true) true fuel 3 cs = some y) : ∃ x : Int, cs = [.int .i64 x] ∧ 0 ≤ Rows.uptoBulk y.1 := by
  match cs, hl with
  | [c], _ =>
    obtain ⟨n0, k0, -, -⟩ := DataW.trod_int Try.underlying3 hh
    injection k0 with k0
    subst k0
    exact ⟨n0, rfl, Nat.zero_le _⟩
theorem one_u8 (fuel : Nat) (cs : List Value) (y : DataW H × List MemPlace) (hl : cs.length = 1) (hh : DataW.trod enc Try.prog W 0 (fun _ => true) true fuel 5 cs = some y) : ∃ x : Int, cs = [.int .u8 x] ∧ 0 ≤ Rows.uptoBulk y.1 := by
  match cs, hl with
  | [c], _ =>
    obtain ⟨n0, k0, -, -⟩ := DataW.trod_int Try.underlying5 hh
    injection k0 with k0
    subst k0
    exact ⟨n0, rfl, Nat.zero_le _⟩
set_option maxRecDepth 100000 in
theorem seg_cells {cs : List Value} {fuel : Nat} {y : DataW H × List MemPlace} (hl : cs.length = 2) (h : DataW.trod enc Try.prog W 0 (fun _ => true) true fuel 66 cs = some y) : ∃ x : {q : Bool × SlI // RowsAt (fun z : Int => [.int .i64 z]) 1 W q.2.A q.2.n q.2.c q.2.zs}, cs = [.bool x.1.1, .slice x.1.2.A x.1.2.n x.1.2.c] ∧ x.1.2.zs.length ≤ Rows.uptoBulk y.1 := by
  obtain ⟨xs, n, -, hy, -, hx, hf⟩ := DataW.trod_struct Try.underlying66 h
  have k2 : Try.prog.cellsOf 31 = 1 := by kernel_rfl
  have k1 : Try.prog.cellsOf 4 = 1 := by kernel_rfl
  match cs, hl with
  | [c0, c1], _ =>
    have q : ∀ i, i < 2 → ∃ z, xs[i]? = some z := fun i hi => ⟨_, List.getElem?_eq_getElem (by rw [hx]; exact hi)⟩
    have e0 := hf 0 _ rfl
    change DataW.trod enc Try.prog W 0 (fun _ => true) true n 4 (List.take (Try.prog.cellsOf 4) [c0, c1]) = _ at e0
    rw [k1] at e0
    obtain ⟨z0, h0⟩ := q 0 (by omega)
    have e1 := hf 1 _ rfl
    change DataW.trod enc Try.prog W 0 (fun _ => true) true n 31 (List.take (Try.prog.cellsOf 31) [c1]) = _ at e1
    rw [k2] at e1
    obtain ⟨z1, h1⟩ := q 1 (by omega)
    obtain ⟨n0, g0, -⟩ := DataW.trod_bool Try.underlying4 (e0.trans h0)
    injection g0 with g0
    subst g0
    obtain ⟨A1, m1, d1, zs1, g1, r1, b1, -⟩ := open_rowsB (fun _ => 0) (fun z : Int => [.int .i64 z]) 1 (by decide) (fun _ => rfl) Try.underlying31 (by kernel_rfl) one_int (e1.trans h1)
    subst g1
    have bb := bulk_of (hy := hy) h1 b1
    exact ⟨⟨⟨n0, A1, m1, d1, zs1⟩, r1⟩, rfl, bb⟩
set_option maxRecDepth 100000 in
theorem com_cells {cs : List Value} {fuel : Nat} {y : DataW H × List MemPlace} (hl : cs.length = 2) (h : DataW.trod enc Try.prog W 0 (fun _ => true) true fuel 86 cs = some y) : ∃ x : Int × Int, cs = [.int .i64 x.1, .int .i64 x.2] ∧ 0 ≤ Rows.uptoBulk y.1 := by
  obtain ⟨xs, n, -, hy, -, hx, hf⟩ := DataW.trod_struct Try.underlying86 h
  have k0 : Try.prog.cellsOf 3 = 1 := by kernel_rfl
  match cs, hl with
  | [c0, c1], _ =>
    have q : ∀ i, i < 2 → ∃ z, xs[i]? = some z := fun i hi => ⟨_, List.getElem?_eq_getElem (by rw [hx]; exact hi)⟩
    have e0 := hf 0 _ rfl
    change DataW.trod enc Try.prog W 0 (fun _ => true) true n 3 (List.take (Try.prog.cellsOf 3) [c0, c1]) = _ at e0
    rw [k0] at e0
    obtain ⟨z0, h0⟩ := q 0 (by omega)
    have e1 := hf 1 _ rfl
    change DataW.trod enc Try.prog W 0 (fun _ => true) true n 3 (List.take (Try.prog.cellsOf 3) [c1]) = _ at e1
    rw [k0] at e1
    obtain ⟨z1, h1⟩ := q 1 (by omega)
    obtain ⟨n0, g0, -, -⟩ := DataW.trod_int Try.underlying3 (e0.trans h0)
    injection g0 with g0
    subst g0
    obtain ⟨n1, g1, -, -⟩ := DataW.trod_int Try.underlying3 (e1.trans h1)
    injection g1 with g1
    subst g1
    exact ⟨(n0, n1), rfl, hy ▸ Nat.zero_le _⟩
set_option maxRecDepth 100000 in
theorem lrg_cells {cs : List Value} {fuel : Nat} {y : DataW H × List MemPlace} (hl : cs.length = 3) (h : DataW.trod enc Try.prog W 0 (fun _ => true) true fuel 88 cs = some y) : ∃ x : Int × Int × Int, cs = [.int .i64 x.1, .int .i64 x.2.1, .int .i64 x.2.2] ∧ 0 ≤ Rows.uptoBulk y.1 := by
  obtain ⟨xs, n, -, hy, -, hx, hf⟩ := DataW.trod_struct Try.underlying88 h
  have k0 : Try.prog.cellsOf 3 = 1 := by kernel_rfl
  match cs, hl with
  | [c0, c1, c2], _ =>
    have q : ∀ i, i < 3 → ∃ z, xs[i]? = some z := fun i hi => ⟨_, List.getElem?_eq_getElem (by rw [hx]; exact hi)⟩
    have e0 := hf 0 _ rfl
    change DataW.trod enc Try.prog W 0 (fun _ => true) true n 3 (List.take (Try.prog.cellsOf 3) [c0, c1, c2]) = _ at e0
    rw [k0] at e0
    obtain ⟨z0, h0⟩ := q 0 (by omega)
    have e1 := hf 1 _ rfl
    change DataW.trod enc Try.prog W 0 (fun _ => true) true n 3 (List.take (Try.prog.cellsOf 3) [c1, c2]) = _ at e1
    rw [k0] at e1
    obtain ⟨z1, h1⟩ := q 1 (by omega)
    have e2 := hf 2 _ rfl
    change DataW.trod enc Try.prog W 0 (fun _ => true) true n 3 (List.take (Try.prog.cellsOf 3) [c2]) = _ at e2
    rw [k0] at e2
    obtain ⟨z2, h2⟩ := q 2 (by omega)
    obtain ⟨n0, g0, -, -⟩ := DataW.trod_int Try.underlying3 (e0.trans h0)
    injection g0 with g0
    subst g0
    obtain ⟨n1, g1, -, -⟩ := DataW.trod_int Try.underlying3 (e1.trans h1)
    injection g1 with g1
    subst g1
    obtain ⟨n2, g2, -, -⟩ := DataW.trod_int Try.underlying3 (e2.trans h2)
    injection g2 with g2
    subst g2
    exact ⟨(n0, n1, n2), rfl, hy ▸ Nat.zero_le _⟩
set_option maxRecDepth 100000 in
theorem unk_cells {cs : List Value} {fuel : Nat} {y : DataW H × List MemPlace} (hl : cs.length = 3) (h : DataW.trod enc Try.prog W 0 (fun _ => true) true fuel 69 cs = some y) : ∃ x : {q : Int × Int × SlI // RowsAt (fun z : Int => [.int .u8 z]) 1 W q.2.2.A q.2.2.n q.2.2.c q.2.2.zs}, cs = [.int .i64 x.1.1, .int .i64 x.1.2.1, .slice x.1.2.2.A x.1.2.2.n x.1.2.2.c] ∧ x.1.2.2.zs.length ≤ Rows.uptoBulk y.1 := by
  obtain ⟨xs, n, -, hy, -, hx, hf⟩ := DataW.trod_struct Try.underlying69 h
  have k3 : Try.prog.cellsOf 67 = 1 := by kernel_rfl
  have k0 : Try.prog.cellsOf 3 = 1 := by kernel_rfl
  match cs, hl with
  | [c0, c1, c2], _ =>
    have q : ∀ i, i < 3 → ∃ z, xs[i]? = some z := fun i hi => ⟨_, List.getElem?_eq_getElem (by rw [hx]; exact hi)⟩
    have e0 := hf 0 _ rfl
    change DataW.trod enc Try.prog W 0 (fun _ => true) true n 3 (List.take (Try.prog.cellsOf 3) [c0, c1, c2]) = _ at e0
    rw [k0] at e0
    obtain ⟨z0, h0⟩ := q 0 (by omega)
    have e1 := hf 1 _ rfl
    change DataW.trod enc Try.prog W 0 (fun _ => true) true n 3 (List.take (Try.prog.cellsOf 3) [c1, c2]) = _ at e1
    rw [k0] at e1
    obtain ⟨z1, h1⟩ := q 1 (by omega)
    have e2 := hf 2 _ rfl
    change DataW.trod enc Try.prog W 0 (fun _ => true) true n 67 (List.take (Try.prog.cellsOf 67) [c2]) = _ at e2
    rw [k3] at e2
    obtain ⟨z2, h2⟩ := q 2 (by omega)
    obtain ⟨n0, g0, -, -⟩ := DataW.trod_int Try.underlying3 (e0.trans h0)
    injection g0 with g0
    subst g0
    obtain ⟨n1, g1, -, -⟩ := DataW.trod_int Try.underlying3 (e1.trans h1)
    injection g1 with g1
    subst g1
    obtain ⟨A2, m2, d2, zs2, g2, r2, b2, -⟩ := open_rowsB (fun _ => 0) (fun z : Int => [.int .u8 z]) 1 (by decide) (fun _ => rfl) Try.underlying67 (by kernel_rfl) one_u8 (e2.trans h2)
    subst g2
    have bb := bulk_of (hy := hy) h2 b2
    exact ⟨⟨⟨n0, n1, A2, m2, d2, zs2⟩, r2⟩, rfl, bb⟩
theorem list11' {α : Type} {l : List α} (h : l.length = 11) : ∃ x0 x1 x2 x3 x4 x5 x6 x7 x8 x9 x10, l = [x0, x1, x2, x3, x4, x5, x6, x7, x8, x9, x10] := by
  match l, h with
  | [x0, x1, x2, x3, x4, x5, x6, x7, x8, x9, x10], _ => exact ⟨x0, x1, x2, x3, x4, x5, x6, x7, x8, x9, x10, rfl⟩
set_option maxRecDepth 100000 in
theorem open_attrs {v : Value} {dd : DataW H} {p : List MemPlace} (hval : Value.okWide Try.prog W r b0 30 v) (h : DataW.Trod enc Try.prog W 0 (fun _ => true) true 30 v dd p) :
    ∃ a : AK, (a.p.length ≤ Rows.uptoBulk dd ∧ a.cs.length ≤ Rows.uptoBulk dd ∧ a.ls.length ≤ Rows.uptoBulk dd ∧ a.us.length ≤ Rows.uptoBulk dd ∧ (∀ s ∈ a.p, s.2.length ≤ Rows.uptoBulk dd) ∧ ∀ u ∈ a.us, u.2.2.length ≤ Rows.uptoBulk dd) ∧ ∀ ψ, VRel ψ (· < W.heap.size) W (.agg a.A) v := by
  obtain ⟨cs, rfl, hl, hc⟩ := open_cells (ts := [3, 22, 4, 23, 23, 3, 3, 3, 26, 27, 28]) (by kernel_rfl) (by kernel_rfl) (by kernel_rfl) hval
  obtain ⟨x0, x1, x2, x3, x4, x5, x6, x7, x8, x9, x10, rfl⟩ := list11' hl
  obtain ⟨y0, h0, k0⟩ := hc 0 _ rfl
  simp at h0; subst h0
  obtain ⟨z0, rfl, -⟩ := cell_int Try.underlying3 k0
  obtain ⟨y2, h2, k2⟩ := hc 2 _ rfl
  simp at h2; subst h2
  obtain ⟨z2, rfl⟩ := cell_bool Try.underlying4 k2
  obtain ⟨y3, h3, k3⟩ := hc 3 _ rfl
  simp at h3; subst h3
  obtain ⟨z3, rfl, -⟩ := cell_int Try.underlying23 k3
  obtain ⟨y4, h4, k4⟩ := hc 4 _ rfl
  simp at h4; subst h4
  obtain ⟨z4, rfl, -⟩ := cell_int Try.underlying23 k4
  obtain ⟨y5, h5, k5⟩ := hc 5 _ rfl
  simp at h5; subst h5
  obtain ⟨z5, rfl, -⟩ := cell_int Try.underlying3 k5
  obtain ⟨y6, h6, k6⟩ := hc 6 _ rfl
  simp at h6; subst h6
  obtain ⟨z6, rfl, -⟩ := cell_int Try.underlying3 k6
  obtain ⟨y7, h7, k7⟩ := hc 7 _ rfl
  simp at h7; subst h7
  obtain ⟨z7, rfl, -⟩ := cell_int Try.underlying3 k7
  obtain ⟨fuel, hf⟩ := h
  obtain ⟨xs, m, -, hy, -, hx, hg⟩ := DataW.trod_struct Try.underlying30 hf
  have q : ∀ i, i < 9 → ∃ z, xs[i]? = some z := fun i hi => ⟨_, List.getElem?_eq_getElem (by rw [hx]; exact hi)⟩
  have c1 : Try.prog.cellsOf 22 = 1 := by kernel_rfl
  obtain ⟨u1, g1⟩ := q 1 (by omega)
  have e1 := hg 1 _ rfl
  change DataW.trod enc Try.prog W 0 (fun _ => true) true m 22 (List.take (Try.prog.cellsOf 22) [x1, .bool z2, .int .u64 z3, .int .u64 z4, .int .i64 z5, .int .i64 z6, .int .i64 z7, x8, x9, x10]) = _ at e1
  rw [c1] at e1
  have c8 : Try.prog.cellsOf 26 = 1 := by kernel_rfl
  obtain ⟨u8, g8⟩ := q 6 (by omega)
  have e8 := hg 6 _ rfl
  change DataW.trod enc Try.prog W 0 (fun _ => true) true m 26 (List.take (Try.prog.cellsOf 26) [x8, x9, x10]) = _ at e8
  rw [c8] at e8
  have c9 : Try.prog.cellsOf 27 = 1 := by kernel_rfl
  obtain ⟨u9, g9⟩ := q 7 (by omega)
  have e9 := hg 7 _ rfl
  change DataW.trod enc Try.prog W 0 (fun _ => true) true m 27 (List.take (Try.prog.cellsOf 27) [x9, x10]) = _ at e9
  rw [c9] at e9
  have c10 : Try.prog.cellsOf 28 = 1 := by kernel_rfl
  obtain ⟨u10, g10⟩ := q 8 (by omega)
  have e10 := hg 8 _ rfl
  change DataW.trod enc Try.prog W 0 (fun _ => true) true m 28 (List.take (Try.prog.cellsOf 28) [x10]) = _ at e10
  rw [c10] at e10
  obtain ⟨A1, n1, d1, l1, rfl, r1, b1, o1⟩ := open_rowsB (fun x => x.1.2.zs.length) (fun x : {q : Bool × SlI // RowsAt (fun z : Int => [.int .i64 z]) 1 W q.2.A q.2.n q.2.c q.2.zs} => [.bool x.1.1, .slice x.1.2.A x.1.2.n x.1.2.c]) 2 (by decide) (fun _ => rfl) Try.underlying22 (by kernel_rfl) (fun _ _ _ => seg_cells) (e1.trans g1)
  replace b1 := bulk_of (hy := hy) g1 b1
  obtain ⟨A8, n8, d8, l8, rfl, r8, b8, o8⟩ := open_rowsB (fun _ => 0) (fun x : Int × Int => [.int .i64 x.1, .int .i64 x.2]) 2 (by decide) (fun _ => rfl) Try.underlying26 (by kernel_rfl) (fun _ _ _ => com_cells) (e8.trans g8)
  replace b8 := bulk_of (hy := hy) g8 b8
  obtain ⟨A9, n9, d9, l9, rfl, r9, b9, o9⟩ := open_rowsB (fun _ => 0) (fun x : Int × Int × Int => [.int .i64 x.1, .int .i64 x.2.1, .int .i64 x.2.2]) 3 (by decide) (fun _ => rfl) Try.underlying27 (by kernel_rfl) (fun _ _ _ => lrg_cells) (e9.trans g9)
  replace b9 := bulk_of (hy := hy) g9 b9
  obtain ⟨A10, n10, d10, l10, rfl, r10, b10, o10⟩ := open_rowsB (fun x => x.1.2.2.zs.length) (fun x : {q : Int × Int × SlI // RowsAt (fun z : Int => [.int .u8 z]) 1 W q.2.2.A q.2.2.n q.2.2.c q.2.2.zs} => [.int .i64 x.1.1, .int .i64 x.1.2.1, .slice x.1.2.2.A x.1.2.2.n x.1.2.2.c]) 3 (by decide) (fun _ => rfl) Try.underlying28 (by kernel_rfl) (fun _ _ _ => unk_cells) (e10.trans g10)
  replace b10 := bulk_of (hy := hy) g10 b10
  refine ⟨⟨z0, l1.map fun x => (x.1.1, x.1.2.zs), z2, z3, z4, z5, z6, z7, l8, l9, l10.map fun x => (x.1.1, x.1.2.1, x.1.2.2.zs)⟩, ⟨by simpa using b1, b8, b9, by simpa using b10, fun s hs => ?_, fun u hu => ?_⟩, fun ψ => .agg _ _ rfl fun i x u h1 h2 => ?_⟩
  · obtain ⟨q, hq, rfl⟩ := List.mem_map.1 hs
    exact bulk_of (hy := hy) g1 (o1 q hq)
  · obtain ⟨q, hq, rfl⟩ := List.mem_map.1 hu
    exact bulk_of (hy := hy) g10 (o10 q hq)
  match i, h1, h2 with
  | 0, h1, h2 => cases h1; cases h2; exact .val _
  | 1, h1, h2 =>
    cases h1; cases h2
    have := vrel_rowsG (f := fun x : {q : Bool × SlI // RowsAt (fun z : Int => [.int .i64 z]) 1 W q.2.A q.2.n q.2.c q.2.zs} => [.bool x.1.1, .slice x.1.2.A x.1.2.n x.1.2.c]) (sz := 2) (fun _ => rfl) (fun x : {q : Bool × SlI // RowsAt (fun z : Int => [.int .i64 z]) 1 W q.2.A q.2.n q.2.c q.2.zs} => segA (x.1.1, x.1.2.zs)) (fun _ => rfl) r1 ψ (fun x _ j y u hy hu => ?_)
    · rw [List.map_map]; exact this
    match j, hy, hu with
    | 0, hy, hu => cases hy; cases hu; exact .val _
    | 1, hy, hu => cases hy; cases hu; exact vrel_rows (f := fun z : Int => [.int .i64 z]) (sz := 1) (fun _ => rfl) (fun z => .val (.int .i64 z)) (fun _ => rfl) x.2 ψ
  | 2, h1, h2 => cases h1; cases h2; exact .val _
  | 3, h1, h2 => cases h1; cases h2; exact .val _
  | 4, h1, h2 => cases h1; cases h2; exact .val _
  | 5, h1, h2 => cases h1; cases h2; exact .val _
  | 6, h1, h2 => cases h1; cases h2; exact .val _
  | 7, h1, h2 => cases h1; cases h2; exact .val _
  | 8, h1, h2 => cases h1; cases h2; exact vrel_rows (f := fun x : Int × Int => [.int .i64 x.1, .int .i64 x.2]) (sz := 2) (fun _ => rfl) comA (fun _ => rfl) r8 ψ
  | 9, h1, h2 => cases h1; cases h2; exact vrel_rows (f := fun x : Int × Int × Int => [.int .i64 x.1, .int .i64 x.2.1, .int .i64 x.2.2]) (sz := 3) (fun _ => rfl) lrgA (fun _ => rfl) r9 ψ
  | 10, h1, h2 =>
    cases h1; cases h2
    have := vrel_rowsG (f := fun x : {q : Int × Int × SlI // RowsAt (fun z : Int => [.int .u8 z]) 1 W q.2.2.A q.2.2.n q.2.2.c q.2.2.zs} => [.int .i64 x.1.1, .int .i64 x.1.2.1, .slice x.1.2.2.A x.1.2.2.n x.1.2.2.c]) (sz := 3) (fun _ => rfl) (fun x : {q : Int × Int × SlI // RowsAt (fun z : Int => [.int .u8 z]) 1 W q.2.2.A q.2.2.n q.2.2.c q.2.2.zs} => unkA (x.1.1, x.1.2.1, x.1.2.2.zs)) (fun _ => rfl) r10 ψ (fun x _ j y u hy hu => ?_)
    · rw [List.map_map]; exact this
    match j, hy, hu with
    | 0, hy, hu => cases hy; cases hu; exact .val _
    | 1, hy, hu => cases hy; cases hu; exact .val _
    | 2, hy, hu => cases hy; cases hu; exact vrel_rows (f := fun z : Int => [.int .u8 z]) (sz := 1) (fun _ => rfl) (fun z => .val (.int .u8 z)) (fun _ => rfl) x.2 ψ
end
end Go.Proofs.Ytddafnipfkeejaa
