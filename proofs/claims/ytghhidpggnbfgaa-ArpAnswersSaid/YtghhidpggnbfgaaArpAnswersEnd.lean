/-
  'ArpAnswers' returns true for every input. The walk is in YtghhidpggnbfgaaAnswers; here is the step to the given statement.
-/
import Derived.Test.YtghhidpggnbfgaaRows
import Derived.Test.YtghhidpggnbfgaaLaw
import Derived.Test.YtghhidpggnbfgaaAnswers
import Derived.Test.YtghhidpggnbfgaaOpen
import Derived.Test.YtghhidpggnbfgaaFlatAddr
import Derived.Test.YtghhidpggnbfgaaFlatMac
namespace Go.Proofs.Ytghhidpggnbfgaa.arpAnswers
open Go.ChangeShapes Go.WideShapes Go.ChangeAt Go.RowKit

theorem own : ownKnob Try.prog.godebug = none := by kernel_rfl
theorem laidOut : laidOutB Try.prog = true := by kernel_rfl

set_option maxRecDepth 100000 in
theorem lifted (os : Os) (started : os.Started) (H : Type) (enc : TypeId × Value → H) :
    ReturnsInHanded {} Try.checked os 5 .any (Rows.arpAnswersSpec.pre6 enc Try.prog Try.f5 Rows.arpAnswersRow.domain false) (Rows.arpAnswersSpec.post enc Try.prog Try.f5 false true false false) := by
  refine returnsInHanded_of_change (C := Try.checked) own started (by kernel_rfl) Try.func5
    (ChangeSpec.witness6 (enc := enc) (C := Try.checked) false ⟨#[], #[.slice none 0 0, .agg #[.int .u8 0, .int .u8 0, .int .u8 0, .int .u8 0, .int .u8 0, .int .u8 0], .agg #[.int .u8 0, .int .u8 0, .int .u8 0, .int .u8 0, .int .u8 0, .int .u8 0], .agg #[.bool false, .int .u64 0, .int .u64 0], .agg #[.bool false, .int .u64 0, .int .u64 0]], []⟩ 8 (by kernel_rfl) (by kernel_rfl) (by kernel_rfl) (by kernel_rfl)) ?_
  intro W base args ds gs before hval0 hW _ _
  have hval : ∀ (j : Nat) t v, Try.f5.params[j]? = some t → args[j]? = some v → Value.okWide Try.prog W .any base t v := hval0
  have hW' := hW
  obtain ⟨p, q, hA0, hV, rfl, -, -⟩ := hW
  have hA : DataW.TrodAll enc Try.prog W 0 (fun _ => true) true Try.f5.params.toList args.toList ds p := hA0
  have hK := hA
  rw [Try.params5] at hA hval
  obtain ⟨v0, vs0, d0, ds0, p0, q0, hargs, rfl, rfl, h0, r0⟩ := trodAll_cons hA
  obtain ⟨v1, vs1, d1, ds1, p1, q1, rfl, rfl, rfl, h1, r1⟩ := trodAll_cons r0
  obtain ⟨v2, vs2, d2, ds2, p2, q2, rfl, rfl, rfl, h2, r2⟩ := trodAll_cons r1
  obtain ⟨v3, vs3, d3, ds3, p3, q3, rfl, rfl, rfl, h3, r3⟩ := trodAll_cons r2
  obtain ⟨v4, vs4, d4, ds4, p4, q4, rfl, rfl, rfl, h4, r4⟩ := trodAll_cons r3
  obtain ⟨rfl, rfl, rfl⟩ := trodAll_nil r4
  obtain rfl : args = #[v0, v1, v2, v3, v4] := by cases args; simp_all
  obtain ⟨rfl, rfl⟩ := trodVars_none hV
  obtain ⟨A0, n0, c0, zs0, rfl, g0⟩ := open_ints_any Try.underlying30 Try.underlying3 (by kernel_rfl) (hval 0 30 v0 rfl rfl) h0
  obtain ⟨a1, b1, c1, e1, f1, g1, rfl, w1⟩ := open_mac (hval 1 23 v1 rfl rfl)
  obtain ⟨a2, b2, c2, e2, f2, g2, rfl, w2⟩ := open_mac (hval 2 23 v2 rfl rfl)
  obtain ⟨a3, b3, c3, rfl, w3, u3⟩ := open_addr (hval 3 26 v3 rfl rfl)
  obtain ⟨a4, b4, c4, rfl, w4, u4⟩ := open_addr (hval 4 26 v4 rfl rfl)
  refine (answers_any A0 n0 c0 zs0 a1 b1 c1 e1 f1 g1 a2 b2 c2 e2 f2 g2 a3 b3 c3 a4 b4 c4 W g0 w1 w2 w3.1 w3.2 u3.1 u3.2 w4.1 w4.2 u4.1 u4.2).mono fun e W' ⟨he, hg⟩ => ?_
  subst he
  exact ⟨_, rfl, law_post hW' hK (by simp) rfl rfl rfl Try.underlying4 laidOut (by kernel_rfl) hg⟩

theorem over : Rows.arpAnswersRow.holds Try.pinned (OpenSpec.ofChange Rows.arpAnswersSpec) :=
  OpenClaim.holds_of_wide 5 Try.f5 rfl rfl rfl rfl rfl rfl rfl ⟨rfl, rfl, rfl, rfl, rfl⟩ rfl rfl rfl rfl rfl (by kernel_rfl) Try.func5 (by kernel_rfl)
    (of_decide_eq_true (by kernel_rfl)) (by unfold Func.isWrapper; first | (rw [if_pos (by decide +kernel)]; kernel_rfl) | (rw [if_neg (by decide +kernel)]; exact ⟨rfl, rfl⟩))
    (fun os started H enc _ => lifted os started H enc)

/-- The given statement. -/
theorem proved : Rows.ArpAnswersSaid := over
#print axioms proved
end Go.Proofs.Ytghhidpggnbfgaa.arpAnswers
