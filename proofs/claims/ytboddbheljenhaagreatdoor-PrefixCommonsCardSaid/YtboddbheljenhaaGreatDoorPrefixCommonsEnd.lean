/-
  'PrefixCommons' returns true for every input. The walk is in YtboddbheljenhaaGreatDoorPrefixCommonsW; here is the step to the given statement.
-/
import Derived.Test.YtboddbheljenhaaGreatDoorRows
import Derived.Test.YtboddbheljenhaaGreatDoorCards
import Derived.Test.YtboddbheljenhaaGreatDoorTie
import Derived.SevenTiedAt
import Derived.Lay
import Derived.Test.YtboddbheljenhaaGreatDoorCard
import Derived.Test.YtboddbheljenhaaGreatDoorG04
import Derived.Test.YtboddbheljenhaaGreatDoorG19
import Derived.Test.YtboddbheljenhaaGreatDoorG01
namespace Go.Proofs.YtboddbheljenhaaGreatDoor.prefixCommons
open Go.ChangeShapes Go.WideShapes Go.ChangeAt Go.RowKit

theorem own : ownKnob Tryz.prog.godebug = none := by kernel_rfl
theorem laidOut : laidOutB Tryz.prog = true := by kernel_rfl

set_option maxHeartbeats 1000000 in
set_option maxRecDepth 100000 in
theorem lifted (os : Os) (started : os.Started) (H : Type) (enc : TypeId × Value → H) :
    ReturnsInHanded {} Tryz.checked os 8 .any (fun w args => (Rows.prefixCommonsSpec.pre enc Tryz.prog Tryz.f8 Rows.prefixCommonsRow.domain false w args ∧ laidMetH Tryz.prog Rows.prefixCommonsRow.laid w) ∧ sizedMet enc Tryz.prog Tryz.f8 (OpenSpec.ofChange Rows.prefixCommonsSpec) false w args) (Rows.prefixCommonsSpec.post enc Tryz.prog Tryz.f8 false true false false) := by
  refine returnsInHanded_of_laid (C := Tryz.checked) (X := fun w _ => laidMetH Tryz.prog Rows.prefixCommonsRow.laid w) (fun _ _ _ hh h => h.of_heap hh) own started (by kernel_rfl) Tryz.func8
    (ChangeSpec.witness_shaped (enc := enc) (C := Tryz.checked) (os := os) (X := fun w _ => laidMetH Tryz.prog Rows.prefixCommonsRow.laid w) false (World.laidAll Tryz.prog os Rows.prefixCommonsRow.laid) #[.slice none 0 0] 8 (World.laidAll_os _ _ _)
      (World.shaped_of_ZipB (by kernel_rfl) (by kernel_rfl)) (by kernel_rfl) (by kernel_rfl) (by kernel_rfl)
      (by rw [MakeChecks.laidMetH_plain _ _ _ (by kernel_rfl)]; exact laidMet_laidAll _ (by kernel_rfl) (by kernel_rfl))) ?_
  intro W base args ds gs before hval0 hW hL hS
  rw [MakeChecks.laidMetH_plain _ _ _ (by kernel_rfl)] at hL
  have hV : VarsOk (· < W.heap.size) W := varsOk_of hL hS (by simp only [Rows.prefixCommonsRow]; exact (List.mem_cons_of_mem _ (List.mem_cons_of_mem _ List.mem_cons_self))) (by simp only [Rows.prefixCommonsRow]; exact (List.mem_cons_of_mem _ (List.mem_cons_of_mem _ (List.mem_cons_of_mem _ (List.mem_cons_of_mem _ (List.mem_cons_of_mem _ List.mem_cons_self)))))) (by simp only [Rows.prefixCommonsRow]; exact (List.mem_cons_of_mem _ (List.mem_cons_of_mem _ (List.mem_cons_of_mem _ (List.mem_cons_of_mem _ List.mem_cons_self))))) (by simp only [Rows.prefixCommonsRow]; exact (List.mem_cons_of_mem _ List.mem_cons_self))
  have hval : ∀ (j : Nat) t v, Tryz.f8.params[j]? = some t → args[j]? = some v → Value.okWide Tryz.prog W .any base t v := hval0
  have hW' := hW
  obtain ⟨p, q, hA0, hVr, rfl, -, -⟩ := hW
  have hA : DataW.TrodAll enc Tryz.prog W 0 (fun _ => true) true Tryz.f8.params.toList args.toList ds p := hA0
  have hK := hA
  rw [Tryz.params8] at hA hval
  obtain ⟨v0, vs0, d0, ds0, p0, q0, hargs, rfl, rfl, h0, r0⟩ := trodAll_cons hA
  obtain ⟨rfl, rfl, rfl⟩ := trodAll_nil r0
  obtain rfl : args = #[v0] := by cases args; simp_all
  obtain ⟨rfl, rfl⟩ := trodVars_none hVr
  obtain ⟨A0, n0, c0, zs0, rfl, g0⟩ := open_ints_any Tryz.underlying27 Tryz.underlying3 (by kernel_rfl) (hval 0 27 v0 rfl rfl) h0
  refine (prefixCommons_any A0 n0 c0 zs0 W hV g0).mono fun e W' ⟨he, hg⟩ => ?_
  subst he
  exact ⟨_, rfl, law_post hW' hK (by simp) rfl rfl rfl Tryz.underlying4 laidOut (by kernel_rfl) hg⟩

theorem over : Rows.prefixCommonsRow.holds Tryz.pinned (OpenSpec.ofChange Rows.prefixCommonsSpec) :=
  OpenClaim.holds_of_wide 8 Tryz.f8 rfl rfl rfl rfl rfl rfl rfl ⟨rfl, rfl, rfl, rfl, rfl⟩ rfl rfl rfl rfl rfl (by kernel_rfl) Tryz.func8 (by kernel_rfl)
    (of_decide_eq_true (by kernel_rfl)) (by unfold Func.isWrapper; first | (rw [if_pos (by decide +kernel)]; kernel_rfl) | (rw [if_neg (by decide +kernel)]; exact ⟨rfl, rfl⟩))
    (fun os started H enc _ => lifted os started H enc)

/-- The given statement: the card. -/
theorem proved : Rows.PrefixCommonsCardSaid :=
  Claim7.holds_tied_plain_at .later [] [.data, .data, .data, .data, .sentinel, .sentinel, .pinned] true (true, "8bbd1696a0b872713cbcc231688ff2275cf69a510d725d4e28d5c810a1e02e16") true
    over (fun _ h => by cases h) (by kernel_rfl) (fun _ h => by cases h) prefixCommons_row_tie rfl ⟨rfl, rfl⟩ (by kernel_rfl) rfl
    (fun f fn hf hfn => by
      obtain rfl : f = 8 := Option.some.inj ((show Tryz.prog.funcNamed "exchangepoint/exchangepointlaw02.PrefixCommons" = some 8 by kernel_rfl).symm.trans hf) |>.symm
      obtain rfl : fn = Tryz.f8 := (Option.some.inj (Tryz.func8.symm.trans hfn)).symm
      exact ⟨by kernel_rfl, fun j t ht => by
        have hm : t ∈ Tryz.f8.params.toList := by simpa using Array.mem_of_getElem? ht
        have hall : (Tryz.f8.params.toList.all fun u => !Tryz.prog.wantsStandIn u) = true := by kernel_rfl
        exact (show Tryz.prog.wantsStandIn t = false by simpa using List.all_eq_true.1 hall t hm)⟩)
    (by kernel_rfl)
#print axioms proved
end Go.Proofs.YtboddbheljenhaaGreatDoor.prefixCommons
