/-
  strconv.Atoi, as a contract on values.
-/
import Derived.Test.YtboddbheljenhaaGreatDoorG19
namespace Go.Proofs.YtboddbheljenhaaGreatDoor
open Go.RowKit Go.Sort
/-- What strconv.Atoi answers. -/
def atoiV (l : List UInt8) (t : TypeId) : AVal := match Lib.atoiAll l with
  | .ok v => .tuple [.val (.int .i64 v), .val .nilIface]
  | .syntax => .tuple [.val (.int .i64 0), .ifc t]
  | .range => .tuple [.val (.int .i64 (Lib.atoiSat l)), .ifc t]
theorem atoi_spec (l : List UInt8) (hl : l.length ≤ 281474976710656) : Spec Tryz.prog 60 [.val (bstr l)] [] (atoiV l 128) [] := by
  have hsz : (⟨l.toArray⟩ : ByteArray).size = l.length := rfl
  unfold atoiV
  cases h : Lib.atoiAll l with
  | ok v =>
    exact spec_belowV (timeless_two (timeless_val _) (timeless_val _)) fun ψ prot w cargs hV hk hs hargs => by
      obtain rfl := one_arg hs hargs
      refine (Tryz.strconv_Atoi_ok ⟨l.toArray⟩ (by rw [hsz]; omega) v h w).mono ?_
      rintro e w' ⟨rfl, hw⟩
      refine ⟨_, rfl, vrel_two (.val _) (.val _), ?_⟩
      rcases hw with rfl | ⟨t, rfl⟩
      · exact Below.refl _ _
      · exact Lib.bytesWorld_below w _ t
  | «syntax» =>
    exact spec_belowV (timeless_two (timeless_val _) (timeless_ifc _)) fun ψ prot w cargs hV hk hs hargs => by
      obtain rfl := one_arg hs hargs
      obtain ⟨tp, p, hv⟩ := vars_syntax hV
      refine (Tryz.strconv_Atoi_syntax_var ⟨l.toArray⟩ (by rw [hsz]; exact hl) h tp p w hv).mono ?_
      rintro e w' ⟨N, rfl, -, -, hb⟩
      exact ⟨_, rfl, vrel_two (.val _) (.ifc _ _), hb⟩
  | range =>
    exact spec_belowV (timeless_two (timeless_val _) (timeless_ifc _)) fun ψ prot w cargs hV hk hs hargs => by
      obtain rfl := one_arg hs hargs
      obtain ⟨tp, p, hv⟩ := vars_range hV
      refine (Tryz.strconv_Atoi_range_var ⟨l.toArray⟩ (by rw [hsz]; exact hl) h tp p w hv).mono ?_
      rintro e w' ⟨N, rfl, -, -, hb⟩
      exact ⟨_, rfl, vrel_two (.val _) (.ifc _ _), hb⟩
end Go.Proofs.YtboddbheljenhaaGreatDoor
