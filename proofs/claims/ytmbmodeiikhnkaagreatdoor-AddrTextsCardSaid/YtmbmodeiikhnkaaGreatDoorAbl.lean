/-
  strings.ToLower of a text of ASCII, strings.Replace, as contracts on values.
-/
import Derived.Test.YtmbmodeiikhnkaaGreatDoorG06
import Derived.Lib.Case
import Derived.Lib.CountLaws
namespace Go.Proofs.YtmbmodeiikhnkaaGreatDoor
open Go.RowKit Go.Sort
theorem upper_spec (l : List UInt8) (hl : l.length ≤ 140737488355328) (ha : ∀ x ∈ l, x.toNat < 128) : Spec Tryz.prog 11 [.val (bstr l)] [] (.val (bstr (Lib.toUpperA l))) [] :=
  spec_belowV (timeless_val _) fun ψ prot w cargs hV hk hsz hargs => by
    obtain rfl := one_arg hsz hargs
    refine (Tryz.strings_ToUpper_ascii ⟨l.toArray⟩ w hl (fun j b hb => ha b (List.mem_of_getElem? hb))).mono ?_
    rintro e w' ⟨rfl, hw⟩
    exact ⟨_, rfl, .val _, hw⟩
theorem four_vals {ψ : Ghost} {prot : Nat → Prop} {w : World} {cargs : Array Value} {x y z t : Value} (hsz : cargs.size = [AVal.val x, AVal.val y, AVal.val z, AVal.val t].length) (h : ∀ (i : Nat) (a : AVal) (v : Value), [AVal.val x, AVal.val y, AVal.val z, AVal.val t][i]? = some a → cargs[i]? = some v → VRel ψ prot w a v) : cargs = #[x, y, z, t] := by
  have hs : cargs.size = 4 := hsz
  have h0 := (h 0 (.val x) cargs[0] rfl (by simp [hs])).val_eq
  have h1 := (h 1 (.val y) cargs[1] rfl (by simp [hs])).val_eq
  have h2 := (h 2 (.val z) cargs[2] rfl (by simp [hs])).val_eq
  have h3 := (h 3 (.val t) cargs[3] rfl (by simp [hs])).val_eq
  apply Array.ext
  · simpa using hs
  · intro i q1 q2
    have : i = 0 ∨ i = 1 ∨ i = 2 ∨ i = 3 := by simp at q2; omega
    rcases this with rfl | rfl | rfl | rfl
    · simpa using h0
    · simpa using h1
    · simpa using h2
    · simpa using h3
theorem replace_spec (l old new : List UInt8) (n : Int) (hl : l.length ≤ 1000) (ho : 1 ≤ old.length) (hn : new.length ≤ 1000) : Spec Tryz.prog 16 [.val (bstr l), .val (bstr old), .val (bstr new), .val (.int .i64 n)] [] (.val (bstr (Lib.replace l old new n))) [] :=
  spec_belowV (timeless_val _) fun ψ prot w cargs hV hk hsz hargs => by
    obtain rfl := four_vals hsz hargs
    obtain ⟨m, hm⟩ := vars_maxlen hV
    have hc : Lib.countB ⟨l.toArray⟩ ⟨old.toArray⟩ ≤ l.length + 1 := Lib.count_le l old
    have hmul : Lib.countB ⟨l.toArray⟩ ⟨old.toArray⟩ * new.length ≤ 1001 * 1000 := Nat.mul_le_mul (by omega) hn
    have hs : (⟨l.toArray⟩ : ByteArray).size = l.length := rfl
    have hs2 : (⟨new.toArray⟩ : ByteArray).size = new.length := rfl
    refine (Tryz.strings_Replace ⟨l.toArray⟩ ⟨old.toArray⟩ ⟨new.toArray⟩ n m w (by rw [hs]; omega) hm ho (by rw [hs, hs2]; omega)).mono ?_
    rintro e w' ⟨rfl, hw⟩
    exact ⟨_, rfl, .val _, hw⟩
end Go.Proofs.YtmbmodeiikhnkaaGreatDoor
