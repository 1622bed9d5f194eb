/-
  Travels and Valley: what passes.
-/
import Derived.Test.YtagkpocagkfhoaaTrav10
import Derived.Test.YtagkpocagkfhoaaConn
namespace Go.Proofs.Ytagkpocagkfhoaa
open Go.RowKit
theorem conn_ok : ∀ (hs : List HopZ) (p : Option Int), conn p hs = true → ∀ (i : Nat) (h : HopZ), hs[i]? = some h → isR h.role = true ∧ asnR h.src = true
  | [], _, _, i, h, e => by simp at e
  | x :: t, p, hc, i, h, e => by
    simp only [conn, Bool.and_eq_true, HopZ.ok] at hc
    cases i with
    | zero => simp at e; subst e; exact ⟨hc.1.1.1.1, hc.1.1.1.2⟩
    | succ i => exact conn_ok t _ hc.2 i h (by simpa using e)
theorem runR_step (b : Bool) (hs : List HopZ) (j : Nat) (h : HopZ) (hj : hs[j]? = some h) : runR b (hs.drop j) = if downR h.role then runR true (hs.drop (j + 1)) else if b then false else runR (h.role == 4) (hs.drop (j + 1)) := by
  have hl : j < hs.length := by
    rcases Nat.lt_or_ge j hs.length with h' | h'
    · exact h'
    · rw [List.getElem?_eq_none h'] at hj; cases hj
  rw [List.drop_eq_getElem_cons hl]
  have e : hs[j] = h := by rw [List.getElem?_eq_getElem hl] at hj; injection hj
  rw [e]
  simp only [runR]
set_option maxHeartbeats 2000000 in
theorem valley_any (A : Option Addr) (n c : Nat) (hs : List HopZ) (w : World) (hl : hs.length = n) (hn : n ≤ 1000000000) (hm : HopsAt w.heap.size A hs w) :
    Calls Try.prog 17 #[.slice A n c] w fun e w' => e = .returned (.bool (conn none hs && runR false hs)) ∧ Below w.heap.size w w' := by
  have HC := Lib.hid (connected_any A n c hs w hl hn hm)
  have HL := Lib.hid hl
  have HM := Lib.hid hm
  have HOK := Lib.hid (conn_ok hs none)
  clear hl hm
  generalize conn none hs = cn at HC HOK
  cases cn with
  | false =>
    go_enter Try.func17, Try.ntmps17
    go_wp2_with fail
    refine HC.out.mono ?_
    rintro e w1 ⟨rfl, hb1⟩
    go_wp2
    go_ret
    exact ⟨rfl, hb1⟩
  | true =>
    obtain ⟨q, hq⟩ : ∃ q, runR false hs = q := ⟨_, rfl⟩
    rw [hq]
    have HQ := Lib.hid hq
    clear hq
    go_enter Try.func17, Try.ntmps17
    go_wp2_with fail
    refine HC.out.mono ?_
    rintro e w1 ⟨rfl, hb1⟩
    go_wp2_with fail
    go_loopw [3, 11] (fun up i wr => ∃ (j : Nat) (b : Bool), j ≤ n ∧ i = .int .i64 j ∧ up = .bool (!b) ∧ Hid (q = runR b (hs.drop j)) ∧ Below w.heap.size w wr) (fun _ i _ => n - (intOf i).toNat)
    case atStart => exact ⟨0, false, Nat.zero_le _, rfl, rfl, HQ.out.symm, hb1⟩
    case round =>
      obtain ⟨j, b, hj, rfl, rfl, hrun, hbel⟩ := hrel
      have hsz := hbel.size
      rcases (show j = n ∨ j < n by omega) with rfl | hlt
      · have hfin := hrun.out
        rw [List.drop_of_length_le (by rw [HL.out]; exact Nat.le_refl _)] at hfin
        have hfin := Lib.hid (hfin.trans (by simp [runR]) : q = true)
        go_wp2
        go_ret
        exact ⟨(by first | rfl | (rw [hfin.out]; rfl)), hbel⟩
      · obtain ⟨⟨s, d, r⟩, hh⟩ : ∃ h, hs[j]? = some h := ⟨hs[j]'(by rw [HL.out]; exact hlt), List.getElem?_eq_getElem _⟩
        have hstep := runR_step b hs j _ hh
        rw [← hrun.out] at hstep
        obtain ⟨hr, -⟩ := HOK.out (by trivial) j _ hh
        obtain ⟨g, o, rfl, hg, c1, c2, c3⟩ := HM.out.below hbel j _ hh
        replace hstep := Lib.hid hstep
        clear hh hrun
        simp only at c1 c2 c3 hr
        have hb0 := Box.made wr 56 #[.int .i64 s, .int .i64 d, .int .i64 r]
        have hbl := hbel.alloc hsz (.cells #[.int .i64 s, .int .i64 d, .int .i64 r] 56)
        have HD := Lib.hid (fun w => down_any r w)
        cases b with
        | false =>
          rcases isR_cases hr with rfl | rfl | rfl | rfl | rfl
          all_goals
            clear hr
            have hb0_0 := hb0.at_ 0; have hb0_1 := hb0.at_ 1; have hb0_2 := hb0.at_ 2
            go_wp2
            go_roundw
            case measure => simp [intOf]; omega
          case rel => exact ⟨j + 1, true, by omega, by go_num, rfl, hstep.out.trans (by simp [downR]), (by repeat (with_reducible first | exact Below.refl _ _ | assumption | refine Below.drew ?_ | refine below_drewN ?_ _ | refine Below.alloc ?_ (by simp) _ | refine Below.setCell ?_ (by first | (simp; done) | omega | (simp; omega)) _ | refine Below.alloc ?_ (by simp; omega) _))⟩
          case rel => exact ⟨j + 1, true, by omega, by go_num, rfl, hstep.out.trans (by simp [downR]), (by repeat (with_reducible first | exact Below.refl _ _ | assumption | refine Below.drew ?_ | refine below_drewN ?_ _ | refine Below.alloc ?_ (by simp) _ | refine Below.setCell ?_ (by first | (simp; done) | omega | (simp; omega)) _ | refine Below.alloc ?_ (by simp; omega) _))⟩
          case rel => exact ⟨j + 1, false, by omega, by go_num, rfl, hstep.out.trans (by simp [downR]), (by repeat (with_reducible first | exact Below.refl _ _ | assumption | refine Below.drew ?_ | refine below_drewN ?_ _ | refine Below.alloc ?_ (by simp) _ | refine Below.setCell ?_ (by first | (simp; done) | omega | (simp; omega)) _ | refine Below.alloc ?_ (by simp; omega) _))⟩
          case rel => exact ⟨j + 1, false, by omega, by go_num, rfl, hstep.out.trans (by simp [downR]), (by repeat (with_reducible first | exact Below.refl _ _ | assumption | refine Below.drew ?_ | refine below_drewN ?_ _ | refine Below.alloc ?_ (by simp) _ | refine Below.setCell ?_ (by first | (simp; done) | omega | (simp; omega)) _ | refine Below.alloc ?_ (by simp; omega) _))⟩
          case rel => exact ⟨j + 1, true, by omega, by go_num, rfl, hstep.out.trans (by simp [downR]), (by repeat (with_reducible first | exact Below.refl _ _ | assumption | refine Below.drew ?_ | refine below_drewN ?_ _ | refine Below.alloc ?_ (by simp) _ | refine Below.setCell ?_ (by first | (simp; done) | omega | (simp; omega)) _ | refine Below.alloc ?_ (by simp; omega) _))⟩
        | true =>
          cases hd : downR r with
          | true =>
            rw [hd] at HD
            have hnext : Hid (q = runR true (hs.drop (j + 1))) := hstep.out.trans (by simp [hd])
            clear hd hstep hr
            have hb0_0 := hb0.at_ 0; have hb0_1 := hb0.at_ 1; have hb0_2 := hb0.at_ 2
            go_wp2_with fail
            refine (HD.out _).mono ?_
            rintro e w2 ⟨rfl, rfl⟩
            go_wp2
            go_roundw
            case measure => simp [intOf]; omega
            case rel => exact ⟨j + 1, true, by omega, by go_num, rfl, hnext, (by repeat (with_reducible first | exact Below.refl _ _ | assumption | refine Below.drew ?_ | refine below_drewN ?_ _ | refine Below.alloc ?_ (by simp) _ | refine Below.setCell ?_ (by first | (simp; done) | omega | (simp; omega)) _ | refine Below.alloc ?_ (by simp; omega) _))⟩
          | false =>
            rw [hd] at HD
            have hfin := Lib.hid (hstep.out.trans (by simp [hd]) : q = false)
            clear hd hstep hr
            have hb0_0 := hb0.at_ 0; have hb0_1 := hb0.at_ 1; have hb0_2 := hb0.at_ 2
            go_wp2_with fail
            refine (HD.out _).mono ?_
            rintro e w2 ⟨rfl, rfl⟩
            go_wp2
            go_ret
            exact ⟨(by first | rfl | (rw [hfin.out]; rfl)), (by repeat (with_reducible first | exact Below.refl _ _ | assumption | refine Below.drew ?_ | refine below_drewN ?_ _ | refine Below.alloc ?_ (by simp) _ | refine Below.setCell ?_ (by first | (simp; done) | omega | (simp; omega)) _ | refine Below.alloc ?_ (by simp; omega) _))⟩
end Go.Proofs.Ytagkpocagkfhoaa
