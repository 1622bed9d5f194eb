/-
  The reference's Valley.
-/
import Derived.Test.YtagkpocagkfhoaaRTrav
namespace Go.Proofs.Ytagkpocagkfhoaa
open Go.RowKit
set_option maxRecDepth 100000 in
set_option maxHeartbeats 2000000 in
theorem rvalley_any (A : Option Addr) (n c : Nat) (hs : List HopZ) (w : World) (hl : hs.length = n) (hn : n ≤ 1000000000) (hm : HopsAt w.heap.size A hs w) :
    Calls Try.prog 26 #[.slice A n c] w fun e w' => e = .returned (.bool (conn none hs && runR false hs)) ∧ Below w.heap.size w w' := by
  have HJ := Lib.hid (fun W (hW : Below w.heap.size w W) => joined_any A n c hs W hl hn (fun i x hx => by
    obtain ⟨g, o, e, hg, h1, h2, h3⟩ := (hm.below hW) i x hx
    exact ⟨g, o, e, Nat.lt_of_lt_of_le hg hW.size, h1, h2, h3⟩))
  have HL := Lib.hid hl
  have HM := Lib.hid hm
  have HOK := Lib.hid (conn_ok hs none)
  clear hl hm
  obtain ⟨cn, hcn⟩ : ∃ cn, conn none hs = cn := ⟨_, rfl⟩
  rw [hcn] at HJ HOK
  rw [hcn]
  clear hcn
  obtain ⟨q, hq⟩ : ∃ q, (cn && runR false hs) = q := ⟨_, rfl⟩
  rw [hq]
  have HQ := Lib.hid hq
  clear hq
  go_enter Try.func26, Try.ntmps26
  go_wp2_with fail
  go_loopw [3] (fun i wr => ∃ j : Nat, j ≤ n ∧ i = .int .i64 j ∧ Hid (q = (cn && runR false (hs.drop j))) ∧ Below w.heap.size w wr) (fun i _ => n - (intOf i).toNat)
  case atStart => exact ⟨0, Nat.zero_le _, rfl, HQ.out.symm, Below.refl _ _⟩
  case round =>
    obtain ⟨j, hj, rfl, hrun, hbel⟩ := hrel
    rcases (show j = n ∨ j < n by omega) with rfl | hlt
    · have hsec : Hid (q = (cn && runR true (hs.drop j))) := hrun.out.trans (by
        rw [List.drop_of_length_le (by rw [HL.out]; exact Nat.le_refl _)]; simp [runR])
      go_wp2_with fail
      go_loopw [3] (fun i wr => i = .int .i64 j ∧ Below w.heap.size w wr) (fun i _ => 0)
      case atStart => exact ⟨rfl, hbel⟩
      case round =>
        obtain ⟨rfl, hbel2⟩ := hrel
        have hfin := hsec.out
        rw [List.drop_of_length_le (by rw [HL.out]; exact Nat.le_refl _)] at hfin
        have hfin := Lib.hid (hfin.trans (by simp [runR]) : q = cn)
        go_wp2_with fail
        refine (HJ.out _ hbel2).mono ?_
        rintro e w3 ⟨rfl, hb3⟩
        go_wp2
        go_ret
        exact ⟨(by first | rfl | (rw [hfin.out]; rfl) | (rw [hfin.out]; simp)), hbel2.trans (hb3.mono hbel2.size)⟩
    · obtain ⟨⟨s, d, r⟩, hh⟩ : ∃ h, hs[j]? = some h := ⟨hs[j]'(by rw [HL.out]; exact hlt), List.getElem?_eq_getElem _⟩
      have hstep := runR_step false hs j _ hh
      have hstepT := Lib.hid (runR_step true hs j _ hh)
      obtain ⟨g, o, rfl, hg', c1, c2, c3⟩ := HM.out.below hbel j _ hh
      replace hstep := Lib.hid hstep
      have hrr := Lib.hid (fun h => (HOK.out h j _ hh).1)
      simp only at c1 c2 c3
      clear hh c1 c2
      by_cases z3 : r = 3
      · subst z3
        have hnext : Hid (q = (cn && runR false (hs.drop (j + 1)))) := hrun.out.trans (by rw [hstep.out]; simp [downR])
        go_wp2_with fail
        go_roundw
        case measure => simp [intOf]; omega
        case rel => exact ⟨j + 1, by omega, by go_num, hnext, hbel⟩
      · by_cases z2 : r = 2
        · subst z2
          have hnext : Hid (q = (cn && runR false (hs.drop (j + 1)))) := hrun.out.trans (by rw [hstep.out]; simp [downR])
          go_wp2_with fail
          go_roundw
          case measure => simp [intOf]; omega
          case rel => exact ⟨j + 1, by omega, by go_num, hnext, hbel⟩
        · by_cases z4 : r = 4
          · subst z4
            have hsec : Hid (q = (cn && runR true (hs.drop (j + 1)))) := hrun.out.trans (by rw [hstep.out]; simp [downR])
            clear hstep hstepT hrun hrr
            go_wp2_with fail
            go_loopw [3] (fun i wr => ∃ j2 : Nat, j2 ≤ n ∧ i = .int .i64 j2 ∧ Hid (q = (cn && runR true (hs.drop j2))) ∧ Below w.heap.size w wr) (fun i _ => n - (intOf i).toNat)
            case atStart => exact ⟨j + 1, by omega, by go_num, hsec, hbel⟩
            case round =>
              obtain ⟨j2, hj2, rfl, hrun2, hbel2⟩ := hrel
              rcases (show j2 = n ∨ j2 < n by omega) with rfl | hlt2
              · have hfin := hrun2.out
                rw [List.drop_of_length_le (by rw [HL.out]; exact Nat.le_refl _)] at hfin
                have hfin := Lib.hid (hfin.trans (by simp [runR]) : q = cn)
                go_wp2_with fail
                refine (HJ.out _ hbel2).mono ?_
                rintro e w3 ⟨rfl, hb3⟩
                go_wp2
                go_ret
                exact ⟨(by first | rfl | (rw [hfin.out]; rfl) | (rw [hfin.out]; simp)), hbel2.trans (hb3.mono hbel2.size)⟩
              · obtain ⟨⟨s2, d2, r2⟩, hh2⟩ : ∃ h, hs[j2]? = some h := ⟨hs[j2]'(by rw [HL.out]; exact hlt2), List.getElem?_eq_getElem _⟩
                have hstep2 := runR_step true hs j2 _ hh2
                obtain ⟨g2, o2, e2, hg2, k1, k2, k3⟩ := HM.out.below hbel2 j2 _ hh2
                injection e2 with e2
                injection e2 with e2a e2b
                subst e2a e2b
                simp only at k1 k2 k3
                replace hstep2 := Lib.hid hstep2
                clear hh2 k1 k2
                by_cases z0 : r2 = 0
                · subst z0
                  have hnext : Hid (q = (cn && runR true (hs.drop (j2 + 1)))) := hrun2.out.trans (by rw [hstep2.out]; simp [downR])
                  go_wp2_with fail
                  go_roundw
                  case measure => simp [intOf]; omega
                  case rel => exact ⟨j2 + 1, by omega, by go_num, hnext, hbel2⟩
                · by_cases z1 : r2 = 1
                  · subst z1
                    have hnext : Hid (q = (cn && runR true (hs.drop (j2 + 1)))) := hrun2.out.trans (by rw [hstep2.out]; simp [downR])
                    go_wp2_with fail
                    go_roundw
                    case measure => simp [intOf]; omega
                    case rel => exact ⟨j2 + 1, by omega, by go_num, hnext, hbel2⟩
                  · have y0 : (r2 == 0) = false := by simpa using z0
                    have y1 : (r2 == 1) = false := by simpa using z1
                    have hfin : Hid (q = false) := hrun2.out.trans (by rw [hstep2.out]; simp [downR, y0, y1])
                    have y2 : decide ((j2 : Int) = n) = false := by simp; omega
                    have y3 : ((j2 : Int) == n) = false := by simp; omega
                    go_wp2_with fail
                    go_ret
                    exact ⟨(by first | rfl | (rw [hfin.out]; rfl)), hbel2⟩
          · have y3 : (r == 3) = false := by simpa using z3
            have y2 : (r == 2) = false := by simpa using z2
            have y4 : (r == 4) = false := by simpa using z4
            have hsec : Hid (q = (cn && runR true (hs.drop j))) := hrun.out.trans (by
              rw [hstep.out, hstepT.out]
              cases cn with
              | false => rfl
              | true =>
                have h1 := hrr.out rfl
                rcases isR_cases h1 with h | h | h | h | h
                · simp only at h; simp [h, downR]
                · simp only at h; simp [h, downR]
                · exact absurd h z2
                · exact absurd h z3
                · exact absurd h z4)
            clear hstep hstepT hrun hrr z2 z3 z4
            go_wp2_with fail
            go_loopw [3] (fun i wr => ∃ j2 : Nat, j2 ≤ n ∧ i = .int .i64 j2 ∧ Hid (q = (cn && runR true (hs.drop j2))) ∧ Below w.heap.size w wr) (fun i _ => n - (intOf i).toNat)
            case atStart => exact ⟨j, by omega, by go_num, hsec, hbel⟩
            case round =>
              obtain ⟨j2, hj2, rfl, hrun2, hbel2⟩ := hrel
              rcases (show j2 = n ∨ j2 < n by omega) with rfl | hlt2
              · have hfin := hrun2.out
                rw [List.drop_of_length_le (by rw [HL.out]; exact Nat.le_refl _)] at hfin
                have hfin := Lib.hid (hfin.trans (by simp [runR]) : q = cn)
                go_wp2_with fail
                refine (HJ.out _ hbel2).mono ?_
                rintro e w3 ⟨rfl, hb3⟩
                go_wp2
                go_ret
                exact ⟨(by first | rfl | (rw [hfin.out]; rfl) | (rw [hfin.out]; simp)), hbel2.trans (hb3.mono hbel2.size)⟩
              · obtain ⟨⟨s2, d2, r2⟩, hh2⟩ : ∃ h, hs[j2]? = some h := ⟨hs[j2]'(by rw [HL.out]; exact hlt2), List.getElem?_eq_getElem _⟩
                have hstep2 := runR_step true hs j2 _ hh2
                obtain ⟨g2, o2, e2, hg2, k1, k2, k3⟩ := HM.out.below hbel2 j2 _ hh2
                injection e2 with e2
                injection e2 with e2a e2b
                subst e2a e2b
                simp only at k1 k2 k3
                replace hstep2 := Lib.hid hstep2
                clear hh2 k1 k2
                by_cases z0 : r2 = 0
                · subst z0
                  have hnext : Hid (q = (cn && runR true (hs.drop (j2 + 1)))) := hrun2.out.trans (by rw [hstep2.out]; simp [downR])
                  go_wp2_with fail
                  go_roundw
                  case measure => simp [intOf]; omega
                  case rel => exact ⟨j2 + 1, by omega, by go_num, hnext, hbel2⟩
                · by_cases z1 : r2 = 1
                  · subst z1
                    have hnext : Hid (q = (cn && runR true (hs.drop (j2 + 1)))) := hrun2.out.trans (by rw [hstep2.out]; simp [downR])
                    go_wp2_with fail
                    go_roundw
                    case measure => simp [intOf]; omega
                    case rel => exact ⟨j2 + 1, by omega, by go_num, hnext, hbel2⟩
                  · have y0 : (r2 == 0) = false := by simpa using z0
                    have y1 : (r2 == 1) = false := by simpa using z1
                    have hfin : Hid (q = false) := hrun2.out.trans (by rw [hstep2.out]; simp [downR, y0, y1])
                    have y2 : decide ((j2 : Int) = n) = false := by simp; omega
                    have y3 : ((j2 : Int) == n) = false := by simp; omega
                    go_wp2_with fail
                    go_ret
                    exact ⟨(by first | rfl | (rw [hfin.out]; rfl)), hbel2⟩
end Go.Proofs.Ytagkpocagkfhoaa
