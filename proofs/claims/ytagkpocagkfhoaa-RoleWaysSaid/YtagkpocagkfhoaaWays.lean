/-
  RoleWays: the walk.
-/
import Derived.Test.YtagkpocagkfhoaaHops
import Derived.Test.YtagkpocagkfhoaaHopsArg
import Derived.Test.YtagkpocagkfhoaaAwake23
import Derived.Test.YtagkpocagkfhoaaRValley
import Derived.Test.YtagkpocagkfhoaaValleys
namespace Go.Proofs.Ytagkpocagkfhoaa
open Go.RowKit
set_option maxRecDepth 100000 in
set_option maxHeartbeats 2000000 in
theorem ways_any (A0 : Option Addr) (n0 c0 : Nat) (hs : List HopZ) (A1 : Option Addr) (n1 c1 : Nat) (zs : List Int) (w : World) (hl : hs.length = n0) (hm : HopsAt w.heap.size A0 hs w) (hi : Ints .i64 w A1 n1 c1 zs) :
    Calls Try.prog 6 #[.slice A0 n0 c0, .slice A1 n1 c1] w fun e w' => e = .returned (.bool true) ∧ Below w.heap.size w w' := by
  have hmx : n1 ≤ 9223372036854775807 := by have h1 := hi.cap; have h2 := hi.max; unfold maxLen at h2; omega
  have HL := Lib.hid hi.lies
  have HN := Lib.hid hi.len
  have KL := Lib.hid hl
  have KM := Lib.hid hm
  have HA := Lib.hid (fun w => awake23_any w)
  clear hi hl hm
  by_cases hr : 60 < n0
  · have k2 : (60 : Int) < n0 := by omega
    go_enter Try.func6, Try.ntmps6
    go_wp2_with fail
    refine (HA.out _).mono ?_
    rintro e w2 ⟨rfl, hb2⟩
    go_wp2
    go_ret
    exact ⟨rfl, hb2⟩
  · have k2 : (n0 : Int) ≤ 60 := by omega
    go_enter Try.func6, Try.ntmps6
    go_wp2_with fail
    refine (new_any A1 n1 c1 zs _ HN.out hmx HL.out).mono ?_
    rintro e w2 ⟨D, rfl, hD0, hdeck, hb2⟩
    go_wp2_with fail
    refine (hops_any D A1 n1 c1 zs _ hdeck).mono ?_
    rintro e w3 ⟨A2, c2, hs2, rfl, hlen2, hm2, hs3⟩
    have b3 := stays_below hb2 hs3 hD0
    clear hdeck hb2 hs3
    have b4 := b3.alloc b3.size (.cells #[.slice A0 n0 c0, .slice A2 hs2.length c2] 28)
    have hw34 : Below w3.heap.size w3 (w3.alloc (.cells #[.slice A0 n0 c0, .slice A2 hs2.length c2] 28)) := (Below.refl _ _).alloc (Nat.le_refl _) _
    have kG := Box.made w3 28 #[.slice A0 n0 c0, .slice A2 hs2.length c2]
    have kA : ∀ W, Below (w3.alloc (.cells #[.slice A0 n0 c0, .slice A2 hs2.length c2] 28)).heap.size (w3.alloc (.cells #[.slice A0 n0 c0, .slice A2 hs2.length c2] 28)) W → HopsAt W.heap.size A0 hs W := fun W hW => ((KM.out.below b4).below (hW.mono b4.size)).more (Nat.le_trans b4.size hW.size)
    have kB : ∀ W, Below (w3.alloc (.cells #[.slice A0 n0 c0, .slice A2 hs2.length c2] 28)).heap.size (w3.alloc (.cells #[.slice A0 n0 c0, .slice A2 hs2.length c2] 28)) W → HopsAt W.heap.size A2 hs2 W := fun W hW => ((hm2.below hw34).below (hW.mono hw34.size)).more (Nat.le_trans hw34.size hW.size)
    replace kA := Lib.hid kA
    replace kB := Lib.hid kB
    clear hw34
    go_wp2_with fail
    generalize w3.alloc (.cells #[.slice A0 n0 c0, .slice A2 hs2.length c2] 28) = w4 at b4 kG kA kB
    go_loopw [17] (fun i wr => ∃ j : Nat, j ≤ 2 ∧ i = .int .i64 j ∧ Below w4.heap.size w4 wr) (fun i _ => 2 - (intOf i).toNat)
    case atStart => exact ⟨0, by omega, rfl, Below.refl _ _⟩
    case round =>
      obtain ⟨j, hj, rfl, hbel⟩ := hrel
      rcases (show j = 2 ∨ j = 0 ∨ j = 1 by omega) with rfl | rfl | rfl
      · go_wp2_with fail
        refine (HA.out _).mono ?_
        rintro e w2 ⟨rfl, hb2⟩
        go_wp2
        go_ret
        exact ⟨rfl, b4.trans ((hbel.trans (hb2.mono hbel.size)).mono b4.size)⟩
      · skip
        have e3 := (kG.under hbel kG.inside).at_ 0
        have HT := Lib.hid (travels_any A0 n0 c0 hs wr KL.out (by omega) (kA.out wr hbel))
        have HU := Lib.hid (fun W hW => rtravels_any A0 n0 c0 hs W KL.out (by omega) (kA.out W hW))
        have HV := Lib.hid (fun W hW => valley_any A0 n0 c0 hs W KL.out (by omega) (kA.out W hW))
        have HX := Lib.hid (fun W hW => rvalley_any A0 n0 c0 hs W KL.out (by omega) (kA.out W hW))
        generalize (conn none hs && runR false hs) = q at HT HU HV HX
        cases q
        all_goals
          go_wp2_with fail
          refine HT.out.mono ?_
          rintro e w5 ⟨rfl, h5⟩
          have b5 := hbel.trans (h5.mono hbel.size)
          go_wp2_with fail
          refine (HU.out _ b5).mono ?_
          rintro e w6 ⟨rfl, h6⟩
          have b6 := b5.trans (h6.mono b5.size)
          go_wp2_with fail
          refine (HV.out _ b6).mono ?_
          rintro e w7 ⟨rfl, h7⟩
          have b7 := b6.trans (h7.mono b6.size)
          go_wp2_with fail
          refine (HX.out _ b7).mono ?_
          rintro e w8 ⟨rfl, h8⟩
          have b8 := b7.trans (h8.mono b7.size)
          clear h5 h6 h7 h8 HT HU HV HX b5 b6 b7
          go_wp2
          go_roundw
          case measure => simp [intOf]
          case rel => exact ⟨1, by omega, by go_num, b8⟩
      · skip
        have e3 := (kG.under hbel kG.inside).at_ 1
        have HT := Lib.hid (travels_any A2 hs2.length c2 hs2 wr rfl (by omega) (kB.out wr hbel))
        have HU := Lib.hid (fun W hW => rtravels_any A2 hs2.length c2 hs2 W rfl (by omega) (kB.out W hW))
        have HV := Lib.hid (fun W hW => valley_any A2 hs2.length c2 hs2 W rfl (by omega) (kB.out W hW))
        have HX := Lib.hid (fun W hW => rvalley_any A2 hs2.length c2 hs2 W rfl (by omega) (kB.out W hW))
        generalize (conn none hs2 && runR false hs2) = q at HT HU HV HX
        cases q
        all_goals
          go_wp2_with fail
          refine HT.out.mono ?_
          rintro e w5 ⟨rfl, h5⟩
          have b5 := hbel.trans (h5.mono hbel.size)
          go_wp2_with fail
          refine (HU.out _ b5).mono ?_
          rintro e w6 ⟨rfl, h6⟩
          have b6 := b5.trans (h6.mono b5.size)
          go_wp2_with fail
          refine (HV.out _ b6).mono ?_
          rintro e w7 ⟨rfl, h7⟩
          have b7 := b6.trans (h7.mono b6.size)
          go_wp2_with fail
          refine (HX.out _ b7).mono ?_
          rintro e w8 ⟨rfl, h8⟩
          have b8 := b7.trans (h8.mono b7.size)
          clear h5 h6 h7 h8 HT HU HV HX b5 b6 b7
          go_wp2
          go_roundw
          case measure => simp [intOf]
          case rel => exact ⟨2, by omega, by go_num, b8⟩
end Go.Proofs.Ytagkpocagkfhoaa
