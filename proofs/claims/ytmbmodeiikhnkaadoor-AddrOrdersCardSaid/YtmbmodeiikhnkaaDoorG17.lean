/-
  AddrOrders, from a call.
-/
import Derived.Test.YtmbmodeiikhnkaaDoorAdOrs
import Derived.Test.YtmbmodeiikhnkaaDoorG01
import Derived.Test.YtmbmodeiikhnkaaDoorG04
import Derived.WideShapes
import Derived.Test.YtmbmodeiikhnkaaDoorRows
namespace Go.Proofs.YtmbmodeiikhnkaaDoor
open Go.RowKit
theorem addrOrders_any (a0 : Bool) (b0 c0 : Int) (A1 : Option Addr) (n1 c1 : Nat) (z1 : List Int) (A2 : Option Addr) (n2 c2 : Nat) (z2 : List Int) (w : World) (hV : VarsOk (· < w.heap.size) w) (g0 : 0 ≤ b0) (h0 : b0 < 18446744073709551616) (i0 : 0 ≤ c0) (j0 : c0 < 18446744073709551616) (g1 : Ints .u8 w A1 n1 c1 z1) (g2 : Ints .i64 w A2 n2 c2 z2) :
    Calls Tryd.prog 3 #[.agg #[.bool a0, .int .u64 b0, .int .u64 c0], .slice A1 n1 c1, .slice A2 n2 c2] w fun e w' => e = .returned (.bool true) ∧ Below w.heap.size w w' := by
  have l1 : z1.length ≤ 9223372036854775807 := by
    have h1 := g1.len; have h2 := g1.cap; have h3 := g1.max
    simp only [maxLen] at h3
    omega
  have b1 : Bytes z1 := fun z hz => by
    have := g1.wf z hz
    simp [Lit.wf, IntKind.min, IntKind.max, IntKind.signed, IntKind.bits] at this
    omega
  have l2 : z2.length ≤ 9223372036854775807 := by
    have h1 := g2.len; have h2 := g2.cap; have h3 := g2.max
    simp only [maxLen] at h3
    omega
  refine calls_val (addrOrders_all a0 b0 c0 g0 h0 i0 j0 z1 l1 b1 z2 l2) rfl (fun j x u h1 h2 => ?_) hV
  match j, h1, h2 with
  | 0, h1, h2 => cases h1; cases h2; exact VRels.agg VRels.vals
  | 1, h1, h2 => cases h1; cases h2; exact vrel_ints g1
  | 2, h1, h2 => cases h1; cases h2; exact vrel_ints g2
  | _ + 3, h1, h2 => cases h1
end Go.Proofs.YtmbmodeiikhnkaaDoor
namespace Go.Proofs.YtmbmodeiikhnkaaDoor
open Go.ChangeShapes Go.WideShapes Go.ChangeAt Go.RowKit
section
variable {P : Program} {W : World} {r : Reach} {base : Nat}
theorem open_cells {t : TypeId} {ts : List TypeId} {v : Value} (ha : (match P.underlying t with | some (.struct _) | some (.array _ _) => true | _ => false) = true) (hts : P.cellTypes P.depth t = some ts) (hc : P.cellsOf t = ts.length) (h : Value.okWide P W r base t v) :
    ∃ cs : List Value, v = .agg cs.toArray ∧ cs.length = ts.length ∧ ∀ (i : Nat) (u : TypeId), ts[i]? = some u → ∃ x : Value, cs[i]? = some x ∧ Cell.okWide P W r base u x := by
  have key : (∃ cs, v = .agg cs ∧ cs.size = P.cellsOf t ∧ Row.okWide P W r base t cs) := by
    unfold Value.okWide at h
    split at h
    · exact h
    · exact h
    · rename_i h1 h2
      exfalso
      split at ha
      · rename_i fs hu; exact h1 fs hu
      · rename_i n e hu; exact h2 n e hu
      · cases ha
  obtain ⟨cs, rfl, hsz, ts', hts', -, hcell⟩ := key
  rw [hts] at hts'
  injection hts' with hts'
  subst hts'
  refine ⟨cs.toList, by simp, by simp [hsz, hc], fun i u hu => ?_⟩
  have hi : i < ts.length := by
    rcases Nat.lt_or_ge i ts.length with h' | h'
    · exact h'
    · rw [List.getElem?_eq_none h'] at hu; cases hu
  have hi' : i < cs.size := by omega
  obtain ⟨u', h1, h2⟩ := hcell i cs[i] (Array.getElem?_eq_getElem hi')
  rw [Nat.mod_eq_of_lt hi, hu] at h1
  injection h1 with h1
  subst h1
  exact ⟨cs[i], by simp [hi'], h2⟩
theorem cell_int {u : TypeId} {k : IntKind} {x : Value} (hu : P.underlying u = some (.int k)) (h : Cell.okWide P W r base u x) : ∃ n, x = .int k n ∧ k.has n := by
  unfold Cell.okWide at h
  rw [hu] at h
  cases x <;> simp [Cell.ok, hu] at h
  obtain ⟨rfl, h⟩ := h
  exact ⟨_, rfl, h⟩
theorem cell_bool {u : TypeId} {x : Value} (hu : P.underlying u = some .bool) (h : Cell.okWide P W r base u x) : ∃ b, x = .bool b := by
  unfold Cell.okWide at h
  rw [hu] at h
  cases x <;> simp [Cell.ok, hu] at h
  exact ⟨_, rfl⟩
theorem has_u8 {n : Int} (h : IntKind.u8.has n) : 0 ≤ n ∧ n < 256 := by
  simp [IntKind.has, IntKind.min, IntKind.max, IntKind.signed, IntKind.bits] at h; omega
theorem has_u64 {n : Int} (h : IntKind.u64.has n) : 0 ≤ n ∧ n < 18446744073709551616 := by
  simp [IntKind.has, IntKind.min, IntKind.max, IntKind.signed, IntKind.bits] at h; omega
theorem has_i64 {n : Int} (h : IntKind.i64.has n) : -9223372036854775808 ≤ n ∧ n ≤ 9223372036854775807 := by
  simp [IntKind.has, IntKind.min, IntKind.max, IntKind.signed, IntKind.bits] at h; omega
theorem okWide_u8 {t : TypeId} {v : Value} (ht : P.underlying t = some (.int .u8)) (h : Value.okWide P W r base t v) : ∃ n, v = .int .u8 n ∧ 0 ≤ n ∧ n < 256 := by
  unfold Value.okWide at h
  rw [ht] at h
  obtain ⟨n, h1, h2⟩ := cell_int ht h
  exact ⟨n, h1, has_u8 h2⟩
theorem okWide_i64 {t : TypeId} {v : Value} (ht : P.underlying t = some (.int .i64)) (h : Value.okWide P W r base t v) : ∃ n, v = .int .i64 n ∧ -9223372036854775808 ≤ n ∧ n ≤ 9223372036854775807 := by
  unfold Value.okWide at h
  rw [ht] at h
  obtain ⟨n, h1, h2⟩ := cell_int ht h
  exact ⟨n, h1, has_i64 h2⟩
/-- A list of known length. -/
theorem list3 {α : Type} {l : List α} (h : l.length = 3) : ∃ a b c, l = [a, b, c] := by
  match l, h with
  | [a, b, c], _ => exact ⟨a, b, c, rfl⟩
theorem list6 {α : Type} {l : List α} (h : l.length = 6) : ∃ a b c d e f, l = [a, b, c, d, e, f] := by
  match l, h with
  | [a, b, c, d, e, f], _ => exact ⟨a, b, c, d, e, f, rfl⟩
end
end Go.Proofs.YtmbmodeiikhnkaaDoor
namespace Go.Proofs.YtmbmodeiikhnkaaDoor
set_option maxRecDepth 100000 in
theorem open_addr {W : World} {r : Reach} {base : Nat} {v : Value} (h : Value.okWide Tryd.prog W r base 24 v) : ∃ (b : Bool) (hi lo : Int), v = .agg #[.bool b, .int .u64 hi, .int .u64 lo] ∧ (0 ≤ hi ∧ hi < 18446744073709551616) ∧ (0 ≤ lo ∧ lo < 18446744073709551616) := by
  obtain ⟨cs, rfl, hl, hc⟩ := open_cells (ts := [4, 22, 22]) (by kernel_rfl) (by kernel_rfl) (by kernel_rfl) h
  obtain ⟨x, y, z, rfl⟩ := list3 hl
  obtain ⟨x', h1, h2⟩ := hc 0 _ rfl
  obtain ⟨y', h3, h4⟩ := hc 1 _ rfl
  obtain ⟨z', h5, h6⟩ := hc 2 _ rfl
  simp at h1 h3 h5
  subst h1; subst h3; subst h5
  obtain ⟨b, rfl⟩ := cell_bool Tryd.underlying4 h2
  obtain ⟨hi, rfl, k1⟩ := cell_int Tryd.underlying22 h4
  obtain ⟨lo, rfl, k2⟩ := cell_int Tryd.underlying22 h6
  exact ⟨b, hi, lo, rfl, has_u64 k1, has_u64 k2⟩
end Go.Proofs.YtmbmodeiikhnkaaDoor
