/-
  The reference's connected hops.
-/
import Derived.Test.YtagkpocagkfhoaaConn
namespace Go.Proofs.Ytagkpocagkfhoaa
open Go.RowKit
theorem asn_yes {s : Int} (h : asnR s = true) : 1 ≤ s ∧ s ≤ 4294967295 := by
  unfold asnR at h
  simp at h
  omega
theorem asn_no {s : Int} (h : asnR s = false) : s < 1 ∨ 4294967295 < s := by
  unfold asnR at h
  simp at h
  omega
set_option maxHeartbeats 400000 in
theorem bad_any (a n : Int) (w : World) : Calls Try.prog 37 #[.int .i64 a, .int .i64 n] w fun e w' => e = .returned (.bool (!(isR a && asnR n))) ∧ w = w' := by
  have HV := Lib.hid (fun w => rinverse_any a w)
  cases hq : isR a with
  | false =>
    rw [invR_bad hq] at HV
    clear hq
    go_enter Try.func37, Try.ntmps37
    go_wp2_with fail
    refine (HV.out _).mono ?_
    rintro e w1 ⟨rfl, rfl⟩
    go_wp2
    go_ret
    exact ⟨rfl, rfl⟩
  | true =>
    have hv : (invR a == -1) = false := by rcases isR_cases hq with rfl | rfl | rfl | rfl | rfl <;> rfl
    have hv3 : ¬ invR a = -1 := by simpa using hv
    generalize invR a = v at HV hv hv3
    clear hq
    cases hn : asnR n with
    | false =>
      rcases asn_no hn with h | h
      · clear hn
        go_enter Try.func37, Try.ntmps37
        go_wp2_with fail
        refine (HV.out _).mono ?_
        rintro e w1 ⟨rfl, rfl⟩
        go_wp2
        go_ret
        exact ⟨rfl, rfl⟩
      · clear hn
        have h1 : ¬ n < 1 := by omega
        have h2 : n > 4294967295 := h
        go_enter Try.func37, Try.ntmps37
        go_wp2_with fail
        refine (HV.out _).mono ?_
        rintro e w1 ⟨rfl, rfl⟩
        go_wp2
        go_ret
        exact ⟨rfl, rfl⟩
    | true =>
      obtain ⟨h1, h2⟩ := asn_yes hn
      clear hn
      go_enter Try.func37, Try.ntmps37
      go_wp2_with fail
      refine (HV.out _).mono ?_
      rintro e w1 ⟨rfl, rfl⟩
      go_wp2
      go_ret
      exact ⟨by simp; omega, rfl⟩
set_option maxHeartbeats 1000000 in
theorem joined_any (A : Option Addr) (n c : Nat) (hs : List HopZ) (w : World) (hl : hs.length = n) (hn : n ≤ 1000000000) (hm : HopsAt w.heap.size A hs w) :
    Calls Try.prog 39 #[.slice A n c] w fun e w' => e = .returned (.bool (conn none hs)) ∧ Below w.heap.size w w' := by
  have HL := Lib.hid hl
  have HM := Lib.hid hm
  clear hl hm
  obtain ⟨q, hq⟩ : ∃ q, conn none hs = q := ⟨_, rfl⟩
  rw [hq]
  have HQ := Lib.hid hq
  clear hq
  go_enter Try.func39, Try.ntmps39
  go_wp2_with fail
  go_loopw [7] (fun i wr => ∃ j : Nat, j ≤ n ∧ i = .int .i64 j ∧ Hid (q = conn (prevOf hs j) (hs.drop j)) ∧ Below w.heap.size w wr) (fun i _ => n - (intOf i).toNat)
  case atStart => exact ⟨0, Nat.zero_le _, rfl, HQ.out.symm, Below.refl _ _⟩
  case round =>
    obtain ⟨j, hj, rfl, hconn, hbel⟩ := hrel
    have hsz := hbel.size
    rcases (show j = n ∨ j < n by omega) with rfl | hlt
    · have hfin := hconn.out
      rw [List.drop_of_length_le (by rw [HL.out]; exact Nat.le_refl _)] at hfin
      have hfin := Lib.hid (hfin.trans (by simp [conn]) : q = true)
      go_wp2
      go_ret
      exact ⟨(by first | rfl | (rw [hfin.out]; rfl)), hbel⟩
    · obtain ⟨⟨s, d, r⟩, hh⟩ : ∃ h, hs[j]? = some h := ⟨hs[j]'(by rw [HL.out]; exact hlt), List.getElem?_eq_getElem _⟩
      have hstep := conn_step hs j _ hh
      rw [← hconn.out] at hstep
      obtain ⟨g, o, rfl, hg, c1, c2, c3⟩ := HM.out.below hbel j _ hh
      replace hstep := Lib.hid hstep
      replace hh := Lib.hid hh
      clear hconn
      simp only at c1 c2 c3
      have HB := Lib.hid (fun w => same_sym (bad_any r s w))
      go_upto_region 4 with fail
      have hb0 := Box.made wr 56 #[.int .i64 s, .int .i64 d, .int .i64 r]
      have hbl := hbel.alloc hsz (.cells #[.int .i64 s, .int .i64 d, .int .i64 r] 56)
      have hok : (HopZ.mk s d r).ok = (isR r && asnR s && asnR d) := rfl
      generalize (isR r && asnR s) = b at HB hok
      replace hok := Lib.hid hok
      cases b with
      | false =>
        rw [Bool.not_false] at HB
        have hok := hok.out
        have hfin := hstep.out
        rw [hok] at hfin
        have hfin := Lib.hid (hfin.trans (by simp) : q = false)
        have hb0_0 := hb0.at_ 0; have hb0_1 := hb0.at_ 1; have hb0_2 := hb0.at_ 2
        go_quiet ((go_at_call 37; exact Calls.quiet_of_same (HB.out _)))
        go_wp2
        go_ret
        exact ⟨(by first | rfl | (rw [hfin.out]; rfl) | (rw [hp.out]; rfl)), (by repeat (with_reducible first | exact Below.refl _ _ | assumption | refine Below.drew ?_ | refine below_drewN ?_ _ | refine Below.alloc ?_ (by simp) _ | refine Below.setCell ?_ (by first | (simp; done) | omega | (simp; omega)) _ | refine Below.alloc ?_ (by simp; omega) _))⟩
      | true =>
        rw [Bool.not_true] at HB
        have hok := hok.out
        cases q3 : asnR d with
        | false =>
          have hd := asn_no q3
          rw [q3] at hok
          clear q3
          rcases hd with hd | hd
          · have f1 : decide (d < 1) = true := by simpa using hd
            have hfin := hstep.out
            rw [hok] at hfin
            have hfin := Lib.hid (hfin.trans (by simp) : q = false)
            have hb0_0 := hb0.at_ 0; have hb0_1 := hb0.at_ 1; have hb0_2 := hb0.at_ 2
            go_quiet ((go_at_call 37; exact Calls.quiet_of_same (HB.out _)))
            go_wp2
            go_ret
            exact ⟨(by first | rfl | (rw [hfin.out]; rfl) | (rw [hp.out]; rfl)), (by repeat (with_reducible first | exact Below.refl _ _ | assumption | refine Below.drew ?_ | refine below_drewN ?_ _ | refine Below.alloc ?_ (by simp) _ | refine Below.setCell ?_ (by first | (simp; done) | omega | (simp; omega)) _ | refine Below.alloc ?_ (by simp; omega) _))⟩
          · have hd1 : ¬ d < 1 := by omega
            have hd2 : d > 4294967295 := hd
            have f1 : decide (d < 1) = false := by simpa using hd1
            have f2 : decide (d > 4294967295) = true := by simpa using hd2
            have f3 : decide (4294967295 < d) = true := by simpa using hd2
            have hfin := hstep.out
            rw [hok] at hfin
            have hfin := Lib.hid (hfin.trans (by simp) : q = false)
            have hb0_0 := hb0.at_ 0; have hb0_1 := hb0.at_ 1; have hb0_2 := hb0.at_ 2
            go_quiet ((go_at_call 37; exact Calls.quiet_of_same (HB.out _)))
            go_wp2
            go_ret
            exact ⟨(by first | rfl | (rw [hfin.out]; rfl) | (rw [hp.out]; rfl)), (by repeat (with_reducible first | exact Below.refl _ _ | assumption | refine Below.drew ?_ | refine below_drewN ?_ _ | refine Below.alloc ?_ (by simp) _ | refine Below.setCell ?_ (by first | (simp; done) | omega | (simp; omega)) _ | refine Below.alloc ?_ (by simp; omega) _))⟩
        | true =>
          obtain ⟨d1, d2⟩ := asn_yes q3
          have f1 : decide (d < 1) = false := by simp; omega
          have f2 : decide (d > 4294967295) = false := by simp; omega
          have f3 : decide (4294967295 < d) = false := by simp; omega
          rw [q3] at hok
          clear q3
          rcases j with _ | k
          · have hnext : Hid (q = conn (prevOf hs 1) (hs.drop 1)) := by
              have h1 := hstep.out
              rw [hok] at h1
              exact h1.trans (by simp [prevOf, okFrom])
            clear hok hstep
            have hb0_0 := hb0.at_ 0; have hb0_1 := hb0.at_ 1; have hb0_2 := hb0.at_ 2
            go_quiet ((go_at_call 37; exact Calls.quiet_of_same (HB.out _)))
            go_wp2
            go_roundw
            case rel => exact ⟨1, by omega, by go_num, hnext, (by repeat (with_reducible first | exact Below.refl _ _ | assumption | refine Below.drew ?_ | refine below_drewN ?_ _ | refine Below.alloc ?_ (by simp) _ | refine Below.setCell ?_ (by first | (simp; done) | omega | (simp; omega)) _ | refine Below.alloc ?_ (by simp; omega) _))⟩
            case measure => simp [intOf]; omega
          · obtain ⟨⟨s0, d0, r0⟩, hh0⟩ : ∃ h, hs[k]? = some h := ⟨hs[k]'(by rw [HL.out]; omega), List.getElem?_eq_getElem _⟩
            obtain ⟨g', o', e', hg', k1, k2, k3⟩ := HM.out.below hbel k _ hh0
            injection e' with e'
            injection e' with e1 e2
            subst e1 e2
            simp only at k1 k2 k3
            have k2' := (World.cell?_alloc_lt wr (.cells #[.int .i64 s, .int .i64 d, .int .i64 r] 56) ⟨g, o + k * 3 + 1, none⟩ (by simp; omega)).trans k2
            by_cases hds : d0 = s
            · subst hds
              have hnext : Hid (q = conn (prevOf hs (k + 1 + 1)) (hs.drop (k + 1 + 1))) := by
                have h1 := hstep.out
                rw [hok] at h1
                exact h1.trans (by simp [prevOf, okFrom, hh0])
              clear hok hstep hh0
              have hb0_0 := hb0.at_ 0; have hb0_1 := hb0.at_ 1; have hb0_2 := hb0.at_ 2
              go_quiet ((go_at_call 37; exact Calls.quiet_of_same (HB.out _)))
              go_wp2
              go_roundw
              case rel => exact ⟨k + 1 + 1, by omega, by go_num, hnext, (by repeat (with_reducible first | exact Below.refl _ _ | assumption | refine Below.drew ?_ | refine below_drewN ?_ _ | refine Below.alloc ?_ (by simp) _ | refine Below.setCell ?_ (by first | (simp; done) | omega | (simp; omega)) _ | refine Below.alloc ?_ (by simp; omega) _))⟩
              case measure => simp [intOf]; omega
            · have z0 : (d0 == s) = false := by simpa using hds
              have z1 : (d0 != s) = true := by simpa using hds
              have hp : okFrom (prevOf hs (k + 1)) s = false := by simp only [prevOf, hh0, Option.map_some, okFrom]; exact z0
              replace hp := Lib.hid hp
              clear hh0
              have hfin := hstep.out
              rw [hok] at hfin
              have hfin := Lib.hid (hfin.trans (by simp only [hp.out]; simp) : q = false)
              have hb0_0 := hb0.at_ 0; have hb0_1 := hb0.at_ 1; have hb0_2 := hb0.at_ 2
              go_quiet ((go_at_call 37; exact Calls.quiet_of_same (HB.out _)))
              go_wp2
              go_ret
              exact ⟨(by first | rfl | (rw [hfin.out]; rfl) | (rw [hp.out]; rfl)), (by repeat (with_reducible first | exact Below.refl _ _ | assumption | refine Below.drew ?_ | refine below_drewN ?_ _ | refine Below.alloc ?_ (by simp) _ | refine Below.setCell ?_ (by first | (simp; done) | omega | (simp; omega)) _ | refine Below.alloc ?_ (by simp; omega) _))⟩
end Go.Proofs.Ytagkpocagkfhoaa
