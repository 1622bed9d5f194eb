/-
  strings.Contains at one byte, strings.Cut, strconv.ParseUint of a byte in base 10, small numbers' texts, as contracts on values.
-/
import Derived.Test.YtboddbheljenhaaGreatDoorG14
namespace Go.Proofs.YtboddbheljenhaaGreatDoor
open Go.RowKit Go.Sort
theorem vrel_three {ψ : Ghost} {prot : Nat → Prop} {w : World} {x y z : AVal} {u v t : Value} (h1 : VRel ψ prot w x u) (h2 : VRel ψ prot w y v) (h3 : VRel ψ prot w z t) : VRel ψ prot w (.tuple [x, y, z]) (.tuple #[u, v, t]) :=
  .tuple _ _ rfl fun i z q e1 e2 => by
    match i, e1, e2 with
    | 0, e1, e2 => cases e1; cases e2; exact h1
    | 1, e1, e2 => cases e1; cases e2; exact h2
    | 2, e1, e2 => cases e1; cases e2; exact h3
    | _ + 3, e1, e2 => cases e1
theorem timeless_three {x y z : AVal} (h1 : Timeless x) (h2 : Timeless y) (h3 : Timeless z) : Timeless (.tuple [x, y, z]) := timeless_tuple fun v hv => by
  simp only [List.mem_cons, List.not_mem_nil, or_false] at hv
  rcases hv with rfl | rfl | rfl
  · exact h1
  · exact h2
  · exact h3
theorem two_vals {ψ : Ghost} {prot : Nat → Prop} {w : World} {cargs : Array Value} {x u : Value} (hsz : cargs.size = [AVal.val x, AVal.val u].length) (h : ∀ (i : Nat) (y : AVal) (v : Value), [AVal.val x, AVal.val u][i]? = some y → cargs[i]? = some v → VRel ψ prot w y v) : cargs = #[x, u] := by
  obtain ⟨v, rfl, hv⟩ := two_args hsz h
  rw [hv.val_eq]
theorem three_vals {ψ : Ghost} {prot : Nat → Prop} {w : World} {cargs : Array Value} {x y z : Value} (hsz : cargs.size = [AVal.val x, AVal.val y, AVal.val z].length) (h : ∀ (i : Nat) (a : AVal) (v : Value), [AVal.val x, AVal.val y, AVal.val z][i]? = some a → cargs[i]? = some v → VRel ψ prot w a v) : cargs = #[x, y, z] := by
  have hs : cargs.size = 3 := hsz
  have h0 := (h 0 (.val x) cargs[0] rfl (by simp [hs])).val_eq
  have h1 := (h 1 (.val y) cargs[1] rfl (by simp [hs])).val_eq
  have h2 := (h 2 (.val z) cargs[2] rfl (by simp [hs])).val_eq
  apply Array.ext
  · simpa using hs
  · intro i q1 q2
    have : i = 0 ∨ i = 1 ∨ i = 2 := by simp at q2; omega
    rcases this with rfl | rfl | rfl
    · simpa using h0
    · simpa using h1
    · simpa using h2
/-- Whether a byte stands in a text. -/
def hasB (l : List UInt8) (c : UInt8) : Bool := decide (0 ≤ Lib.indexByte l c)
theorem contains_spec (l : List UInt8) (c : UInt8) : Spec Tryz.prog 75 [.val (bstr l), .val (bstr [c])] [] (.val (.bool (hasB l c))) [] :=
  spec_belowV (timeless_val _) fun ψ prot w cargs hV hk hsz hargs => by
    obtain rfl := two_vals hsz hargs
    refine (Tryz.strings_Contains_one ⟨l.toArray⟩ c w).mono ?_
    rintro e w' ⟨rfl, rfl⟩
    exact ⟨_, rfl, .val _, Below.refl _ _⟩
theorem cut_spec (l sep : List UInt8) (hl : l.length < 4294967281) : Spec Tryz.prog 57 [.val (bstr l), .val (bstr sep)] [] (.tuple [.val (bstr (Lib.cut l sep).1), .val (bstr (Lib.cut l sep).2.1), .val (.bool (Lib.cut l sep).2.2)]) [] :=
  spec_belowV (timeless_three (timeless_val _) (timeless_val _) (timeless_val _)) fun ψ prot w cargs hV hk hsz hargs => by
    obtain rfl := two_vals hsz hargs
    obtain ⟨m, hm⟩ := vars_maxlen hV
    refine (Tryz.strings_Cut ⟨l.toArray⟩ ⟨sep.toArray⟩ m w hl hm).mono ?_
    rintro e w' ⟨rfl, n, rfl⟩
    exact ⟨_, rfl, vrel_three (.val _) (.val _) (.val _), ⟨rfl, rfl, rfl, Nat.le_refl _, fun _ _ => rfl⟩⟩
/-- What strconv.ParseUint(l, 10, 8) answers. -/
def pu8V (l : List UInt8) (t : TypeId) : AVal := match Lib.parseUintB 8 l with
  | .ok v => .tuple [.val (.int .u64 v), .val .nilIface]
  | .syntax => .tuple [.val (.int .u64 0), .ifc t]
  | .range => .tuple [.val (.int .u64 255), .ifc t]
theorem pu8_spec (l : List UInt8) (hl : l.length ≤ 281474976710656) : Spec Tryz.prog 98 [.val (bstr l), .val (.int .i64 10), .val (.int .i64 8)] [] (pu8V l 128) [] := by
  have hsz : (⟨l.toArray⟩ : ByteArray).size = l.length := rfl
  unfold pu8V
  cases h : Lib.parseUintB 8 l with
  | ok v =>
    exact spec_belowV (timeless_two (timeless_val _) (timeless_val _)) fun ψ prot w cargs hV hk hs hargs => by
      obtain rfl := three_vals hs hargs
      refine (Tryz.strconv_ParseUint_10_at8_ok ⟨l.toArray⟩ (by rw [hsz]; omega) v h w).mono ?_
      rintro e w' ⟨rfl, hw⟩
      refine ⟨_, rfl, vrel_two (.val _) (.val _), ?_⟩
      rcases hw with rfl | rfl
      · exact Below.refl _ _
      · exact Lib.bytesWorld_below w _ _
  | «syntax» =>
    exact spec_belowV (timeless_two (timeless_val _) (timeless_ifc _)) fun ψ prot w cargs hV hk hs hargs => by
      obtain rfl := three_vals hs hargs
      obtain ⟨tp, p, hv⟩ := vars_syntax hV
      refine (Tryz.strconv_ParseUint_10_at8_syntax_var ⟨l.toArray⟩ (by rw [hsz]; exact hl) h tp p w hv).mono ?_
      rintro e w' ⟨N, rfl, -, -, hb⟩
      exact ⟨_, rfl, vrel_two (.val _) (.ifc _ _), hb⟩
  | range =>
    exact spec_belowV (timeless_two (timeless_val _) (timeless_ifc _)) fun ψ prot w cargs hV hk hs hargs => by
      obtain rfl := three_vals hs hargs
      obtain ⟨tp, p, hv⟩ := vars_range hV
      refine (Tryz.strconv_ParseUint_10_at8_range_var ⟨l.toArray⟩ (by rw [hsz]; exact hl) h tp p w hv).mono ?_
      rintro e w' ⟨N, rfl, -, -, hb⟩
      exact ⟨_, rfl, vrel_two (.val _) (.ifc _ _), hb⟩
theorem small_spec (i : Nat) (h : i < 100) : Spec Tryz.prog 92 [.val (.int .i64 i)] [] (.val (bstr (Lib.decDigits i))) [] :=
  spec_belowV (timeless_val _) fun ψ prot w cargs hV hk hsz hargs => by
    obtain rfl := one_arg hsz hargs
    refine (Tryz.internal_strconv_small i h w).mono ?_
    rintro e w' ⟨rfl, rfl⟩
    exact ⟨_, rfl, .val _, Below.refl _ _⟩
end Go.Proofs.YtboddbheljenhaaGreatDoor
