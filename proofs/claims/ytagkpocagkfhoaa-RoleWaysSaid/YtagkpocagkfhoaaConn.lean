/-
  Connected hops.
-/
import Derived.Test.YtagkpocagkfhoaaRole1
import Derived.Test.YtagkpocagkfhoaaOpen
import Derived.BigQuiet
import Derived.Deep.DeepCutAuto
namespace Go.Proofs.Ytagkpocagkfhoaa
open Go.RowKit
theorem same_sym {P : Program} {f : FuncId} {args : Array Value} {w : World} {v : Value} (h : Calls P f args w fun e w' => e = .returned v ∧ w = w') : Calls P f args w fun e w' => e = .returned v ∧ w' = w := h.mono fun _ _ ⟨h1, h2⟩ => ⟨h1, h2.symm⟩
/-- Hops that lie from the address A on, three cells each, in blocks below B. -/
def HopsAt (B : Nat) (A : Option Addr) (hs : List HopZ) (w : World) : Prop :=
  ∀ i h, hs[i]? = some h → ∃ g o, A = some ⟨g, o, none⟩ ∧ g < B ∧ w.cell? ⟨g, o + i * 3, none⟩ = some (.int .i64 h.src) ∧ w.cell? ⟨g, o + i * 3 + 1, none⟩ = some (.int .i64 h.dst) ∧ w.cell? ⟨g, o + i * 3 + 2, none⟩ = some (.int .i64 h.role)
theorem HopsAt.below {B : Nat} {A : Option Addr} {hs : List HopZ} {w w' : World} (h : HopsAt B A hs w) (hb : Below B w w') : HopsAt B A hs w' := fun i x hx => by
  obtain ⟨g, o, e, hg, h1, h2, h3⟩ := h i x hx
  exact ⟨g, o, e, hg, (hb.cell (p := ⟨g, _, none⟩) hg).trans h1, (hb.cell (p := ⟨g, _, none⟩) hg).trans h2, (hb.cell (p := ⟨g, _, none⟩) hg).trans h3⟩
/-- Where the hop before the j-th one ends. -/
def prevOf (hs : List HopZ) : Nat → Option Int
  | 0 => none
  | j + 1 => (hs[j]?).map (·.dst)
theorem conn_step (hs : List HopZ) (j : Nat) (h : HopZ) (hj : hs[j]? = some h) : conn (prevOf hs j) (hs.drop j) = (h.ok && okFrom (prevOf hs j) h.src && conn (prevOf hs (j + 1)) (hs.drop (j + 1))) := by
  have hl : j < hs.length := by
    rcases Nat.lt_or_ge j hs.length with h' | h'
    · exact h'
    · rw [List.getElem?_eq_none h'] at hj; cases hj
  rw [List.drop_eq_getElem_cons hl]
  have e : hs[j] = h := by rw [List.getElem?_eq_getElem hl] at hj; injection hj
  rw [e]
  simp only [conn, prevOf, hj, Option.map_some]
set_option maxHeartbeats 2000000 in
theorem connected_any (A : Option Addr) (n c : Nat) (hs : List HopZ) (w : World) (hl : hs.length = n) (hn : n ≤ 1000000000) (hm : HopsAt w.heap.size A hs w) :
    Calls Try.prog 29 #[.slice A n c] w fun e w' => e = .returned (.bool (conn none hs)) ∧ Below w.heap.size w w' := by
  have HL := Lib.hid hl
  have HM := Lib.hid hm
  clear hl hm
  obtain ⟨q, hq⟩ : ∃ q, conn none hs = q := ⟨_, rfl⟩
  rw [hq]
  have HQ := Lib.hid hq
  clear hq
  go_enter Try.func29, Try.ntmps29
  go_wp2_with fail
  go_loopw [7] (fun i wr => ∃ j : Nat, j ≤ n ∧ i = .int .i64 j ∧ Hid (q = conn (prevOf hs j) (hs.drop j)) ∧ Below w.heap.size w wr) (fun i _ => n - (intOf i).toNat)
  case atStart => exact ⟨0, Nat.zero_le _, rfl, HQ.out.symm, Below.refl _ _⟩
  case round =>
    obtain ⟨j, hj, rfl, hconn, hbel⟩ := hrel
    have hsz := hbel.size
    rcases (show j = n ∨ j < n by omega) with rfl | hlt
    · have hfin := hconn.out
      rw [List.drop_of_length_le (by rw [HL.out]; exact Nat.le_refl _)] at hfin
      have hfin := Lib.hid (hfin.trans (by simp [conn]) : q = true)
      go_wp2
      go_ret
      exact ⟨(by first | rfl | (rw [hfin.out]; rfl) | (rw [hp.out]; rfl)), hbel⟩
    · obtain ⟨⟨s, d, r⟩, hh⟩ : ∃ h, hs[j]? = some h := ⟨hs[j]'(by rw [HL.out]; exact hlt), List.getElem?_eq_getElem _⟩
      have hstep := conn_step hs j _ hh
      rw [← hconn.out] at hstep
      obtain ⟨g, o, rfl, hg, c1, c2, c3⟩ := HM.out.below hbel j _ hh
      replace hstep := Lib.hid hstep
      replace hh := Lib.hid hh
      clear hconn
      simp only at c1 c2 c3
      have HI := Lib.hid (fun w => same_sym (isRole_any r w))
      have HS := Lib.hid (fun w => same_sym (asn_any s w))
      have HD := Lib.hid (fun w => same_sym (asn_any d w))
      go_upto_region 4 with fail
      have hb0 := Box.made wr 56 #[.int .i64 s, .int .i64 d, .int .i64 r]
      have hbl := hbel.alloc hsz (.cells #[.int .i64 s, .int .i64 d, .int .i64 r] 56)
      have hok : (HopZ.mk s d r).ok = (isR r && asnR s && asnR d) := rfl
      replace hok := Lib.hid hok
      cases q1 : isR r with
      | false =>
        rw [q1] at HI
        have hok := hok.out
        rw [q1] at hok
        clear q1
        have hfin := hstep.out
        rw [hok] at hfin
        have hfin := Lib.hid (hfin.trans (by simp) : q = false)
        have hb0_0 := hb0.at_ 0; have hb0_1 := hb0.at_ 1; have hb0_2 := hb0.at_ 2
        go_quiet ((first | (go_at_call 27; exact Calls.quiet_of_same (HI.out _)) | (go_at_call 35; exact Calls.quiet_of_same (HS.out _)) | (go_at_call 35; exact Calls.quiet_of_same (HD.out _))))
        go_wp2
        go_ret
        exact ⟨(by first | rfl | (rw [hfin.out]; rfl) | (rw [hp.out]; rfl)), (by repeat (with_reducible first | exact Below.refl _ _ | assumption | refine Below.drew ?_ | refine below_drewN ?_ _ | refine Below.alloc ?_ (by simp) _ | refine Below.setCell ?_ (by first | (simp; done) | omega | (simp; omega)) _ | refine Below.alloc ?_ (by simp; omega) _))⟩
      | true =>
        rw [q1] at HI
        have hok := hok.out
        rw [q1] at hok
        clear q1
        cases q2 : asnR s with
        | false =>
          rw [q2] at HS hok
          clear q2
          have hfin := hstep.out
          rw [hok] at hfin
          have hfin := Lib.hid (hfin.trans (by simp) : q = false)
          have hb0_0 := hb0.at_ 0; have hb0_1 := hb0.at_ 1; have hb0_2 := hb0.at_ 2
          go_quiet ((first | (go_at_call 27; exact Calls.quiet_of_same (HI.out _)) | (go_at_call 35; exact Calls.quiet_of_same (HS.out _)) | (go_at_call 35; exact Calls.quiet_of_same (HD.out _))))
          go_wp2
          go_ret
          exact ⟨(by first | rfl | (rw [hfin.out]; rfl) | (rw [hp.out]; rfl)), (by repeat (with_reducible first | exact Below.refl _ _ | assumption | refine Below.drew ?_ | refine below_drewN ?_ _ | refine Below.alloc ?_ (by simp) _ | refine Below.setCell ?_ (by first | (simp; done) | omega | (simp; omega)) _ | refine Below.alloc ?_ (by simp; omega) _))⟩
        | true =>
          rw [q2] at HS hok
          clear q2
          cases q3 : asnR d with
          | false =>
            rw [q3] at HD hok
            clear q3
            have hfin := hstep.out
            rw [hok] at hfin
            have hfin := Lib.hid (hfin.trans (by simp) : q = false)
            have hb0_0 := hb0.at_ 0; have hb0_1 := hb0.at_ 1; have hb0_2 := hb0.at_ 2
            go_quiet ((first | (go_at_call 27; exact Calls.quiet_of_same (HI.out _)) | (go_at_call 35; exact Calls.quiet_of_same (HS.out _)) | (go_at_call 35; exact Calls.quiet_of_same (HD.out _))))
            go_wp2
            go_ret
            exact ⟨(by first | rfl | (rw [hfin.out]; rfl) | (rw [hp.out]; rfl)), (by repeat (with_reducible first | exact Below.refl _ _ | assumption | refine Below.drew ?_ | refine below_drewN ?_ _ | refine Below.alloc ?_ (by simp) _ | refine Below.setCell ?_ (by first | (simp; done) | omega | (simp; omega)) _ | refine Below.alloc ?_ (by simp; omega) _))⟩
          | true =>
            rw [q3] at HD hok
            clear q3
            rcases j with _ | k
            · have hnext : Hid (q = conn (prevOf hs 1) (hs.drop 1)) := by
                have h1 := hstep.out
                rw [hok] at h1
                exact h1.trans (by simp [prevOf, okFrom])
              clear hok hstep
              have hb0_0 := hb0.at_ 0; have hb0_1 := hb0.at_ 1; have hb0_2 := hb0.at_ 2
              go_quiet ((first | (go_at_call 27; exact Calls.quiet_of_same (HI.out _)) | (go_at_call 35; exact Calls.quiet_of_same (HS.out _)) | (go_at_call 35; exact Calls.quiet_of_same (HD.out _))))
              go_wp2
              go_roundw
              case rel => exact ⟨1, by omega, by go_num, hnext, (by repeat (with_reducible first | exact Below.refl _ _ | assumption | refine Below.drew ?_ | refine below_drewN ?_ _ | refine Below.alloc ?_ (by simp) _ | refine Below.setCell ?_ (by first | (simp; done) | omega | (simp; omega)) _ | refine Below.alloc ?_ (by simp; omega) _))⟩
              case measure => simp [intOf]; omega
            · obtain ⟨⟨s0, d0, r0⟩, hh0⟩ : ∃ h, hs[k]? = some h := ⟨hs[k]'(by rw [HL.out]; omega), List.getElem?_eq_getElem _⟩
              obtain ⟨g', o', e', hg', k1, k2, k3⟩ := HM.out.below hbel k _ hh0
              injection e' with e'
              injection e' with e1 e2
              subst e1 e2
              simp only at k1 k2 k3
              have k2' := (World.cell?_alloc_lt wr (.cells #[.int .i64 s, .int .i64 d, .int .i64 r] 56) ⟨g, o + k * 3 + 1, none⟩ (by simp; omega)).trans k2
              by_cases hds : d0 = s
              · subst hds
                have hnext : Hid (q = conn (prevOf hs (k + 1 + 1)) (hs.drop (k + 1 + 1))) := by
                  have h1 := hstep.out
                  rw [hok] at h1
                  exact h1.trans (by simp [prevOf, okFrom, hh0])
                clear hok hstep hh0
                have hb0_0 := hb0.at_ 0; have hb0_1 := hb0.at_ 1; have hb0_2 := hb0.at_ 2
                go_quiet ((first | (go_at_call 27; exact Calls.quiet_of_same (HI.out _)) | (go_at_call 35; exact Calls.quiet_of_same (HS.out _)) | (go_at_call 35; exact Calls.quiet_of_same (HD.out _))))
                go_wp2
                go_roundw
                case rel => exact ⟨k + 1 + 1, by omega, by go_num, hnext, (by repeat (with_reducible first | exact Below.refl _ _ | assumption | refine Below.drew ?_ | refine below_drewN ?_ _ | refine Below.alloc ?_ (by simp) _ | refine Below.setCell ?_ (by first | (simp; done) | omega | (simp; omega)) _ | refine Below.alloc ?_ (by simp; omega) _))⟩
                case measure => simp [intOf]; omega
              · have z0 : (d0 == s) = false := by simpa using hds
                have z1 : (d0 != s) = true := by simpa using hds
                have hp : okFrom (prevOf hs (k + 1)) s = false := by simp only [prevOf, hh0, Option.map_some, okFrom]; exact z0
                replace hp := Lib.hid hp
                clear hh0
                have hfin := hstep.out
                rw [hok] at hfin
                have hfin := Lib.hid (hfin.trans (by simp only [hp.out]; simp) : q = false)
                have hb0_0 := hb0.at_ 0; have hb0_1 := hb0.at_ 1; have hb0_2 := hb0.at_ 2
                go_quiet ((first | (go_at_call 27; exact Calls.quiet_of_same (HI.out _)) | (go_at_call 35; exact Calls.quiet_of_same (HS.out _)) | (go_at_call 35; exact Calls.quiet_of_same (HD.out _))))
                go_wp2
                go_ret
                exact ⟨(by first | rfl | (rw [hfin.out]; rfl) | (rw [hp.out]; rfl)), (by repeat (with_reducible first | exact Below.refl _ _ | assumption | refine Below.drew ?_ | refine below_drewN ?_ _ | refine Below.alloc ?_ (by simp) _ | refine Below.setCell ?_ (by first | (simp; done) | omega | (simp; omega)) _ | refine Below.alloc ?_ (by simp; omega) _))⟩
end Go.Proofs.Ytagkpocagkfhoaa
