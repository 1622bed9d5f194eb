/-
  AddrTexts, from a call.
-/
import Derived.Test.YtmbmodeiikhnkaaGreatDoorG19
import Derived.Test.YtmbmodeiikhnkaaGreatDoorG01
import Derived.Test.YtmbmodeiikhnkaaGreatDoorG04
import Derived.WideShapes
import Derived.Test.YtmbmodeiikhnkaaGreatDoorRows
namespace Go.Proofs.YtmbmodeiikhnkaaGreatDoor
open Go.RowKit
theorem addrTexts_any (s0 : ByteArray) (a1 : Bool) (b1 c1 : Int) (A2 : Option Addr) (n2 c2 : Nat) (z2 : List Int) (z3 : Int) (z4 : Int) (w : World) (hV : VarsOk (· < w.heap.size) w) (g0 : s0.size ≤ maxLen) (g1 : 0 ≤ b1) (h1 : b1 < 18446744073709551616) (i1 : 0 ≤ c1) (j1 : c1 < 18446744073709551616) (g2 : Ints .i64 w A2 n2 c2 z2) :
    Calls Tryz.prog 3 #[.string s0, .agg #[.bool a1, .int .u64 b1, .int .u64 c1], .slice A2 n2 c2, .int .i64 z3, .int .i64 z4] w fun e w' => e = .returned (.bool true) ∧ Below w.heap.size w w' := by
  have l2 : z2.length ≤ 9223372036854775807 := by
    have h1 := g2.len; have h2 := g2.cap; have h3 := g2.max
    simp only [maxLen] at h3
    omega
  refine calls_val (addrTexts_all s0.data.toList a1 b1 c1 g1 h1 i1 j1 z2 l2 z3 z4) rfl (fun j x u h1 h2 => ?_) hV
  match j, h1, h2 with
  | 0, h1, h2 => cases h1; cases h2; exact .val _
  | 1, h1, h2 => cases h1; cases h2; exact VRels.agg VRels.vals
  | 2, h1, h2 => cases h1; cases h2; exact vrel_ints g2
  | 3, h1, h2 => cases h1; cases h2; exact .val _
  | 4, h1, h2 => cases h1; cases h2; exact .val _
  | _ + 5, h1, h2 => cases h1
end Go.Proofs.YtmbmodeiikhnkaaGreatDoor
namespace Go.Proofs.YtmbmodeiikhnkaaGreatDoor
open Go.ChangeShapes Go.WideShapes Go.ChangeAt Go.RowKit
section
variable {P : Program} {W : World} {r : Reach} {base : Nat}
theorem open_cells {t : TypeId} {ts : List TypeId} {v : Value} (ha : (match P.underlying t with | some (.struct _) | some (.array _ _) => true | _ => false) = true) (hts : P.cellTypes P.depth t = some ts) (hc : P.cellsOf t = ts.length) (h : Value.okWide P W r base t v) :
    ∃ cs : List Value, v = .agg cs.toArray ∧ cs.length = ts.length ∧ ∀ (i : Nat) (u : TypeId), ts[i]? = some u → ∃ x : Value, cs[i]? = some x ∧ Cell.okWide P W r base u x := by
  have key : (∃ cs, v = .agg cs ∧ cs.size = P.cellsOf t ∧ Row.okWide P W r base t cs) := by
    unfold Value.okWide at h
    split at h
    · exact h
    · exact h
    · rename_i h1 h2
      exfalso
      split at ha
      · rename_i fs hu; exact h1 fs hu
      · rename_i n e hu; exact h2 n e hu
      · cases ha
  obtain ⟨cs, rfl, hsz, ts', hts', -, hcell⟩ := key
  rw [hts] at hts'
  injection hts' with hts'
  subst hts'
  refine ⟨cs.toList, by simp, by simp [hsz, hc], fun i u hu => ?_⟩
  have hi : i < ts.length := by
    rcases Nat.lt_or_ge i ts.length with h' | h'
    · exact h'
    · rw [List.getElem?_eq_none h'] at hu; cases hu
  have hi' : i < cs.size := by omega
  obtain ⟨u', h1, h2⟩ := hcell i cs[i] (Array.getElem?_eq_getElem hi')
  rw [Nat.mod_eq_of_lt hi, hu] at h1
  injection h1 with h1
  subst h1
  exact ⟨cs[i], by simp [hi'], h2⟩
theorem cell_int {u : TypeId} {k : IntKind} {x : Value} (hu : P.underlying u = some (.int k)) (h : Cell.okWide P W r base u x) : ∃ n, x = .int k n ∧ k.has n := by
  unfold Cell.okWide at h
  rw [hu] at h
  cases x <;> simp [Cell.ok, hu] at h
  obtain ⟨rfl, h⟩ := h
  exact ⟨_, rfl, h⟩
theorem cell_bool {u : TypeId} {x : Value} (hu : P.underlying u = some .bool) (h : Cell.okWide P W r base u x) : ∃ b, x = .bool b := by
  unfold Cell.okWide at h
  rw [hu] at h
  cases x <;> simp [Cell.ok, hu] at h
  exact ⟨_, rfl⟩
theorem has_u8 {n : Int} (h : IntKind.u8.has n) : 0 ≤ n ∧ n < 256 := by
  simp [IntKind.has, IntKind.min, IntKind.max, IntKind.signed, IntKind.bits] at h; omega
theorem has_u64 {n : Int} (h : IntKind.u64.has n) : 0 ≤ n ∧ n < 18446744073709551616 := by
  simp [IntKind.has, IntKind.min, IntKind.max, IntKind.signed, IntKind.bits] at h; omega
theorem has_i64 {n : Int} (h : IntKind.i64.has n) : -9223372036854775808 ≤ n ∧ n ≤ 9223372036854775807 := by
  simp [IntKind.has, IntKind.min, IntKind.max, IntKind.signed, IntKind.bits] at h; omega
theorem okWide_u8 {t : TypeId} {v : Value} (ht : P.underlying t = some (.int .u8)) (h : Value.okWide P W r base t v) : ∃ n, v = .int .u8 n ∧ 0 ≤ n ∧ n < 256 := by
  unfold Value.okWide at h
  rw [ht] at h
  obtain ⟨n, h1, h2⟩ := cell_int ht h
  exact ⟨n, h1, has_u8 h2⟩
theorem okWide_i64 {t : TypeId} {v : Value} (ht : P.underlying t = some (.int .i64)) (h : Value.okWide P W r base t v) : ∃ n, v = .int .i64 n ∧ -9223372036854775808 ≤ n ∧ n ≤ 9223372036854775807 := by
  unfold Value.okWide at h
  rw [ht] at h
  obtain ⟨n, h1, h2⟩ := cell_int ht h
  exact ⟨n, h1, has_i64 h2⟩
/-- A list of known length. -/
theorem list3 {α : Type} {l : List α} (h : l.length = 3) : ∃ a b c, l = [a, b, c] := by
  match l, h with
  | [a, b, c], _ => exact ⟨a, b, c, rfl⟩
theorem list6 {α : Type} {l : List α} (h : l.length = 6) : ∃ a b c d e f, l = [a, b, c, d, e, f] := by
  match l, h with
  | [a, b, c, d, e, f], _ => exact ⟨a, b, c, d, e, f, rfl⟩
end
end Go.Proofs.YtmbmodeiikhnkaaGreatDoor
namespace Go.Proofs.YtmbmodeiikhnkaaGreatDoor
set_option maxRecDepth 100000 in
theorem open_addr {W : World} {r : Reach} {base : Nat} {v : Value} (h : Value.okWide Tryz.prog W r base 24 v) : ∃ (b : Bool) (hi lo : Int), v = .agg #[.bool b, .int .u64 hi, .int .u64 lo] ∧ (0 ≤ hi ∧ hi < 18446744073709551616) ∧ (0 ≤ lo ∧ lo < 18446744073709551616) := by
  obtain ⟨cs, rfl, hl, hc⟩ := open_cells (ts := [4, 22, 22]) (by kernel_rfl) (by kernel_rfl) (by kernel_rfl) h
  obtain ⟨x, y, z, rfl⟩ := list3 hl
  obtain ⟨x', h1, h2⟩ := hc 0 _ rfl
  obtain ⟨y', h3, h4⟩ := hc 1 _ rfl
  obtain ⟨z', h5, h6⟩ := hc 2 _ rfl
  simp at h1 h3 h5
  subst h1; subst h3; subst h5
  obtain ⟨b, rfl⟩ := cell_bool Tryz.underlying4 h2
  obtain ⟨hi, rfl, k1⟩ := cell_int Tryz.underlying22 h4
  obtain ⟨lo, rfl, k2⟩ := cell_int Tryz.underlying22 h6
  exact ⟨b, hi, lo, rfl, has_u64 k1, has_u64 k2⟩
end Go.Proofs.YtmbmodeiikhnkaaGreatDoor
