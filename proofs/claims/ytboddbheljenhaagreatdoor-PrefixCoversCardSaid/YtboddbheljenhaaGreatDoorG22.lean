/-
  Layer 2: PrefixCovers, with its example.
-/
import Derived.Test.YtboddbheljenhaaGreatDoorCvs
import Derived.Test.YtboddbheljenhaaGreatDoorAwk2b
import Derived.Test.YtboddbheljenhaaGreatDoorG01
import Derived.Test.YtboddbheljenhaaGreatDoorG04
import Derived.WideShapes
import Derived.Test.YtboddbheljenhaaGreatDoorRows
namespace Go.Proofs.YtboddbheljenhaaGreatDoor
open Go.RowKit
structure PX where
  v : Bool
  hi : Int
  lo : Int
  n : Int
theorem prefixCovers_all (p : PX) (_ : ∀ z ∈ ([] : List Int), 0 ≤ z ∧ z < 256) (h : ∀ z ∈ ([p.hi, p.lo] : List Int), 0 ≤ z ∧ z < 18446744073709551616) (q : PX) (_ : ∀ z ∈ ([] : List Int), 0 ≤ z ∧ z < 256) (g : ∀ z ∈ ([q.hi, q.lo] : List Int), 0 ≤ z ∧ z < 18446744073709551616) (zs : List Int) (hz : zs.length ≤ 9223372036854775807) :
    Spec Tryz.prog 4 [.agg [.val (.bool p.v), .val (.int .u64 p.hi), .val (.int .u64 p.lo), .val (.int .i64 p.n)], .agg [.val (.bool q.v), .val (.int .u64 q.hi), .val (.int .u64 q.lo), .val (.int .i64 q.n)], .ro (ints .i64 zs)] [] (.val (.bool true)) [] :=
  have h1 := h p.hi (by simp)
  have h2 := h p.lo (by simp)
  have g1 := g q.hi (by simp)
  have g2 := g q.lo (by simp)
  prefixCovers_of awake02 p.v p.hi p.lo p.n ⟨h1.1, h1.2, h2.1, h2.2⟩ q.v q.hi q.lo q.n ⟨g1.1, g1.2, g2.1, g2.2⟩ zs hz
end Go.Proofs.YtboddbheljenhaaGreatDoor
namespace Go.Proofs.YtboddbheljenhaaGreatDoor
open Go.RowKit
theorem prefixCovers_any (e0_0 : Bool) (e0_1 : Int) (e0_2 : Int) (e0_3 : Int) (e1_0 : Bool) (e1_1 : Int) (e1_2 : Int) (e1_3 : Int) (A2 : Option Addr) (n2 c2 : Nat) (z2 : List Int) (w : World) (hV : VarsOk (· < w.heap.size) w) (g0 : ∀ z ∈ ([] : List Int), 0 ≤ z ∧ z < 256) (h0 : ∀ z ∈ ([e0_1, e0_2] : List Int), 0 ≤ z ∧ z < 18446744073709551616) (g1 : ∀ z ∈ ([] : List Int), 0 ≤ z ∧ z < 256) (h1 : ∀ z ∈ ([e1_1, e1_2] : List Int), 0 ≤ z ∧ z < 18446744073709551616) (g2 : Ints .i64 w A2 n2 c2 z2) :
    Calls Tryz.prog 4 #[.agg #[.bool e0_0, .int .u64 e0_1, .int .u64 e0_2, .int .i64 e0_3], .agg #[.bool e1_0, .int .u64 e1_1, .int .u64 e1_2, .int .i64 e1_3], .slice A2 n2 c2] w fun e w' => e = .returned (.bool true) ∧ Below w.heap.size w w' := by
  have l2 : z2.length ≤ 9223372036854775807 := by
    have h1 := g2.len; have h2 := g2.cap; have h3 := g2.max
    simp only [maxLen] at h3
    omega
  refine calls_val (prefixCovers_all ⟨e0_0, e0_1, e0_2, e0_3⟩ g0 h0 ⟨e1_0, e1_1, e1_2, e1_3⟩ g1 h1 z2 l2) rfl (fun j x u h1 h2 => ?_) hV
  match j, h1, h2 with
  | 0, h1, h2 => cases h1; cases h2; exact VRels.agg VRels.vals
  | 1, h1, h2 => cases h1; cases h2; exact VRels.agg VRels.vals
  | 2, h1, h2 => cases h1; cases h2; exact vrel_ints g2
  | _ + 3, h1, h2 => cases h1
end Go.Proofs.YtboddbheljenhaaGreatDoor
namespace Go.Proofs.YtboddbheljenhaaGreatDoor
open Go.ChangeShapes Go.WideShapes Go.ChangeAt Go.RowKit
section
variable {P : Program} {W : World} {r : Reach} {base : Nat}
theorem open_cells {t : TypeId} {ts : List TypeId} {v : Value} (ha : (match P.underlying t with | some (.struct _) | some (.array _ _) => true | _ => false) = true) (hts : P.cellTypes P.depth t = some ts) (hc : P.cellsOf t = ts.length) (h : Value.okWide P W r base t v) :
    ∃ cs : List Value, v = .agg cs.toArray ∧ cs.length = ts.length ∧ ∀ (i : Nat) (u : TypeId), ts[i]? = some u → ∃ x : Value, cs[i]? = some x ∧ Cell.okWide P W r base u x := by
  have key : (∃ cs, v = .agg cs ∧ cs.size = P.cellsOf t ∧ Row.okWide P W r base t cs) := by
    unfold Value.okWide at h
    split at h
    · exact h
    · exact h
    · rename_i h1 h2
      exfalso
      split at ha
      · rename_i fs hu; exact h1 fs hu
      · rename_i n e hu; exact h2 n e hu
      · cases ha
  obtain ⟨cs, rfl, hsz, ts', hts', -, hcell⟩ := key
  rw [hts] at hts'
  injection hts' with hts'
  subst hts'
  refine ⟨cs.toList, by simp, by simp [hsz, hc], fun i u hu => ?_⟩
  have hi : i < ts.length := by
    rcases Nat.lt_or_ge i ts.length with h' | h'
    · exact h'
    · rw [List.getElem?_eq_none h'] at hu; cases hu
  have hi' : i < cs.size := by omega
  obtain ⟨u', h1, h2⟩ := hcell i cs[i] (Array.getElem?_eq_getElem hi')
  rw [Nat.mod_eq_of_lt hi, hu] at h1
  injection h1 with h1
  subst h1
  exact ⟨cs[i], by simp [hi'], h2⟩
theorem cell_int {u : TypeId} {k : IntKind} {x : Value} (hu : P.underlying u = some (.int k)) (h : Cell.okWide P W r base u x) : ∃ n, x = .int k n ∧ k.has n := by
  unfold Cell.okWide at h
  rw [hu] at h
  cases x <;> simp [Cell.ok, hu] at h
  obtain ⟨rfl, h⟩ := h
  exact ⟨_, rfl, h⟩
theorem cell_bool {u : TypeId} {x : Value} (hu : P.underlying u = some .bool) (h : Cell.okWide P W r base u x) : ∃ b, x = .bool b := by
  unfold Cell.okWide at h
  rw [hu] at h
  cases x <;> simp [Cell.ok, hu] at h
  exact ⟨_, rfl⟩
theorem has_u8 {n : Int} (h : IntKind.u8.has n) : 0 ≤ n ∧ n < 256 := by
  simp [IntKind.has, IntKind.min, IntKind.max, IntKind.signed, IntKind.bits] at h; omega
theorem has_u64 {n : Int} (h : IntKind.u64.has n) : 0 ≤ n ∧ n < 18446744073709551616 := by
  simp [IntKind.has, IntKind.min, IntKind.max, IntKind.signed, IntKind.bits] at h; omega
theorem has_i64 {n : Int} (h : IntKind.i64.has n) : -9223372036854775808 ≤ n ∧ n ≤ 9223372036854775807 := by
  simp [IntKind.has, IntKind.min, IntKind.max, IntKind.signed, IntKind.bits] at h; omega
theorem okWide_u8 {t : TypeId} {v : Value} (ht : P.underlying t = some (.int .u8)) (h : Value.okWide P W r base t v) : ∃ n, v = .int .u8 n ∧ 0 ≤ n ∧ n < 256 := by
  unfold Value.okWide at h
  rw [ht] at h
  obtain ⟨n, h1, h2⟩ := cell_int ht h
  exact ⟨n, h1, has_u8 h2⟩
theorem okWide_i64 {t : TypeId} {v : Value} (ht : P.underlying t = some (.int .i64)) (h : Value.okWide P W r base t v) : ∃ n, v = .int .i64 n ∧ -9223372036854775808 ≤ n ∧ n ≤ 9223372036854775807 := by
  unfold Value.okWide at h
  rw [ht] at h
  obtain ⟨n, h1, h2⟩ := cell_int ht h
  exact ⟨n, h1, has_i64 h2⟩
/-- A list of known length. -/
theorem list3 {α : Type} {l : List α} (h : l.length = 3) : ∃ a b c, l = [a, b, c] := by
  match l, h with
  | [a, b, c], _ => exact ⟨a, b, c, rfl⟩
theorem list6 {α : Type} {l : List α} (h : l.length = 6) : ∃ a b c d e f, l = [a, b, c, d, e, f] := by
  match l, h with
  | [a, b, c, d, e, f], _ => exact ⟨a, b, c, d, e, f, rfl⟩
end
end Go.Proofs.YtboddbheljenhaaGreatDoor
namespace Go.Proofs.YtboddbheljenhaaGreatDoor
theorem list_pfx {α : Type} {l : List α} (h : l.length = 4) : ∃ x0 x1 x2 x3, l = [x0, x1, x2, x3] := by
  match l, h with
  | [x0, x1, x2, x3], _ => exact ⟨x0, x1, x2, x3, rfl⟩
set_option maxRecDepth 100000 in
theorem open_pfx {W : World} {r : Reach} {base : Nat} {v : Value} (h : Value.okWide Tryz.prog W r base 26 v) : ∃ (e0 : Bool) (e1 : Int) (e2 : Int) (e3 : Int), v = .agg #[.bool e0, .int .u64 e1, .int .u64 e2, .int .i64 e3] ∧ (∀ z ∈ ([] : List Int), 0 ≤ z ∧ z < 256) ∧ (∀ z ∈ ([e1, e2] : List Int), 0 ≤ z ∧ z < 18446744073709551616) := by
  obtain ⟨cs, rfl, hl, hc⟩ := open_cells (ts := [4, 22, 22, 3]) (by kernel_rfl) (by kernel_rfl) (by kernel_rfl) h
  obtain ⟨x0, x1, x2, x3, rfl⟩ := list_pfx hl
  obtain ⟨y0, h0, k0⟩ := hc 0 _ rfl
  obtain ⟨y1, h1, k1⟩ := hc 1 _ rfl
  obtain ⟨y2, h2, k2⟩ := hc 2 _ rfl
  obtain ⟨y3, h3, k3⟩ := hc 3 _ rfl
  simp at h0 h1 h2 h3
  subst h0; subst h1; subst h2; subst h3
  obtain ⟨z0, rfl⟩ := cell_bool Tryz.underlying4 k0
  obtain ⟨z1, rfl, q1⟩ := cell_int Tryz.underlying22 k1
  obtain ⟨z2, rfl, q2⟩ := cell_int Tryz.underlying22 k2
  obtain ⟨z3, rfl, q3⟩ := cell_int Tryz.underlying3 k3
  refine ⟨z0, z1, z2, z3, rfl, fun z hz => ?_, fun z hz => ?_⟩
  · cases hz
  · simp only [List.mem_cons, List.not_mem_nil, or_false] at hz
    rcases hz with rfl | rfl
    · exact has_u64 q1
    · exact has_u64 q2
end Go.Proofs.YtboddbheljenhaaGreatDoor
