/-
  Layer 1's example.
-/
import Derived.Test.YtmbmodeiikhnkaaDoorPs6
import Derived.Test.YtmbmodeiikhnkaaDoorPse1
import Derived.Test.YtmbmodeiikhnkaaDoorG08
import Derived.Test.YtmbmodeiikhnkaaDoorBytes6
namespace Go.Proofs.YtmbmodeiikhnkaaDoor
open Go.RowKit
theorem awake01 : Spec Tryd.prog 9 [] [] (.val (.bool true)) [] := awake1_of parse6_ex
end Go.Proofs.YtmbmodeiikhnkaaDoor
namespace Go.Proofs.YtmbmodeiikhnkaaDoor
open Go.RowKit
theorem count_sub (l sub : List UInt8) (hl : l.length < 4294967281) (h2 : 2 ≤ sub.length) : Spec Tryd.prog 27 [.val (bstr l), .val (bstr sub)] [] (.val (.int .i64 (Lib.count l sub : Int))) [] :=
  spec_belowV (timeless_val _) fun ψ prot w cargs hV hk hsz hargs => by
    obtain rfl := two_vals hsz hargs
    obtain ⟨m, hm⟩ := vars_maxlen hV
    refine (Tryd.strings_Count ⟨l.toArray⟩ ⟨sub.toArray⟩ m w hl hm h2).mono ?_
    rintro e w' ⟨rfl, rfl⟩
    exact ⟨_, rfl, .val _, Below.refl _ _⟩
theorem contains_sub (l sub : List UInt8) (hl : l.length < 4294967281) : Spec Tryd.prog 28 [.val (bstr l), .val (bstr sub)] [] (.val (.bool (Lib.contains l sub))) [] :=
  spec_belowV (timeless_val _) fun ψ prot w cargs hV hk hsz hargs => by
    obtain rfl := two_vals hsz hargs
    obtain ⟨m, hm⟩ := vars_maxlen hV
    refine (Tryd.strings_Contains ⟨l.toArray⟩ ⟨sub.toArray⟩ m w hl hm).mono ?_
    rintro e w' ⟨rfl, rfl⟩
    exact ⟨_, rfl, .val _, Below.refl _ _⟩
/-- The runs of zeros, as the law counts them: the one that ends here, the longest one. -/
def rms (xs : List Nat) : Nat → Nat × Nat
  | 0 => (0, 0)
  | i + 1 => let r := if xs.getD i 1 = 0 then (rms xs i).1 + 1 else 0; (r, max (rms xs i).2 r)
def zrB : List Bool → Nat
  | [] => 0
  | b :: bs => if b = true then zrB bs + 1 else 0
def lrsB (bs : List Bool) : Nat → Nat × Nat
  | 0 => (0, 0)
  | i + 1 => if zrB (bs.drop i) > (lrsB bs i).2 then (i, zrB (bs.drop i)) else lrsB bs i
def rmsB (bs : List Bool) : Nat → Nat × Nat
  | 0 => (0, 0)
  | i + 1 => let r := if bs.getD i false = true then (rmsB bs i).1 + 1 else 0; (r, max (rmsB bs i).2 r)
def zp (xs : List Nat) : List Bool := xs.map fun x => decide (x = 0)
theorem zr_zp : ∀ xs : List Nat, zr xs = zrB (zp xs)
  | [] => rfl
  | x :: xs => by
    have ih := zr_zp xs
    unfold zp at ih ⊢
    rw [zr, List.map_cons, zrB, ih]
    by_cases h : x = 0 <;> simp [h]
theorem lrs_zp (xs : List Nat) : ∀ i, lrs xs i = lrsB (zp xs) i
  | 0 => rfl
  | i + 1 => by
    rw [lrs, lrsB, lrs_zp xs i, zr_zp]
    unfold zp
    rw [List.map_drop]
theorem rms_zp (xs : List Nat) : ∀ i, rms xs i = rmsB (zp xs) i
  | 0 => rfl
  | i + 1 => by
    rw [rms, rmsB, rms_zp xs i]
    have e : (zp xs).getD i false = decide (xs.getD i 1 = 0) := by
      unfold zp
      rw [List.getD_eq_getElem?_getD, List.getD_eq_getElem?_getD, List.getElem?_map]
      cases xs[i]? <;> simp
    rw [e]
    simp
theorem eight_bits : ∀ a b c d e f g h : Bool, (rmsB [a, b, c, d, e, f, g, h] 8).2 = (lrsB [a, b, c, d, e, f, g, h] 8).2 := by decide +kernel
theorem rms_lrs {xs : List Nat} (h8 : xs.length = 8) : (rms xs 8).2 = (lrs xs 8).2 := by
  rw [rms_zp, lrs_zp]
  match xs, h8 with
  | [a, b, c, d, e, f, g, h], _ => exact eight_bits _ _ _ _ _ _ _ _
theorem rms_le (xs : List Nat) : ∀ i, (rms xs i).1 ≤ i ∧ (rms xs i).2 ≤ i
  | 0 => ⟨Nat.le_refl _, Nat.le_refl _⟩
  | i + 1 => by
    have := rms_le xs i
    unfold rms
    by_cases h : xs.getD i 1 = 0
    · simp only [h, if_true]; omega
    · simp only [h, if_false]; omega
/-- The bytes of a group. -/
theorem a16_grps (hi lo : Nat) (i : Nat) (h : i < 8) : (a16 (hi : Int) (lo : Int))[2 * i]? = some (((grps hi lo).getD i 1 / 256 : Nat) : Int) ∧ (a16 (hi : Int) (lo : Int))[2 * i + 1]? = some (((grps hi lo).getD i 1 % 256 : Nat) : Int) := by
  have : i = 0 ∨ i = 1 ∨ i = 2 ∨ i = 3 ∨ i = 4 ∨ i = 5 ∨ i = 6 ∨ i = 7 := by omega
  rcases this with rfl | rfl | rfl | rfl | rfl | rfl | rfl | rfl <;> simp [a16, by8, grps, List.range, List.range.loop] <;> omega
end Go.Proofs.YtmbmodeiikhnkaaDoor
