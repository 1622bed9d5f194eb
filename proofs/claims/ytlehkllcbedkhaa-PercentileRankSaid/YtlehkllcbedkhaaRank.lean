/-
  PercentileRank: the walk.
-/
import Derived.Test.YtlehkllcbedkhaaAwake40
import Derived.Test.YtlehkllcbedkhaaMill
namespace Go.Proofs.Ytlehkllcbedkhaa
open Go.RowKit
theorem has_false {x v : Int} (h : v ≠ x) (b : Bool) : (b || v == x) = b := by simp [h]
set_option maxHeartbeats 2000000 in
theorem rank_any (A0 : Option Addr) (n0 c0 : Nat) (zs : List Int) (p : Int) (w : World) (hi : Ints .i64 w A0 n0 c0 zs) :
    Calls Try.prog 5 #[.slice A0 n0 c0, .int .i64 p] w fun e w' => e = .returned (.bool true) ∧ Below w.heap.size w w' := by
  have hmx : n0 ≤ 9223372036854775807 := by have h1 := hi.cap; have h2 := hi.max; unfold maxLen at h2; omega
  have HL := Lib.hid hi.lies
  have HN := Lib.hid hi.len
  clear hi
  by_cases hr : n0 = 0 ∨ 300 < n0
  · have HP := Lib.hid (fun w => pctl_none 95 none 0 w (by omega) (by omega))
    have HA := Lib.hid (fun w => awake40_any w)
    rcases hr with rfl | hr
    · go_enter Try.func5, Try.ntmps5
      go_wp2_with fail
      refine (HP.out _).mono ?_
      rintro e w1 ⟨rfl, rfl⟩
      go_wp2_with fail
      refine (HA.out _).mono ?_
      rintro e w2 ⟨rfl, hb2⟩
      go_wp2
      go_ret
      exact ⟨rfl, hb2⟩
    · have k1 : ((n0 : Int) == 0) = false := by simp; omega
      have k2 : (300 : Int) < n0 := by omega
      go_enter Try.func5, Try.ntmps5
      go_wp2_with fail
      refine (HP.out _).mono ?_
      rintro e w1 ⟨rfl, rfl⟩
      go_wp2_with fail
      refine (HA.out _).mono ?_
      rintro e w2 ⟨rfl, hb2⟩
      go_wp2
      go_ret
      exact ⟨rfl, hb2⟩
  · have hn0 : 0 < n0 := by omega
    have hn3 : n0 ≤ 300 := by omega
    clear hr
    have k1 : ((n0 : Int) == 0) = false := by simp; omega
    have k2 : (n0 : Int) ≤ 300 := by omega
    have HM := Lib.hid (fun w => mod_any p 100 w (by omega) (by omega))
    have hq0 : 0 ≤ p % 100 := by omega
    have hq1 : p % 100 ≤ 99 := by omega
    generalize p % 100 = q at HM hq0 hq1
    have HA := Lib.hid (fun w => awake40_any w)
    have HP := Lib.hid (pctl_some (1 + q) A0 n0 c0 zs w (by omega) (by omega) HN.out hn0 (by omega) (sints_of_lies HL.out HN.out hn0))
    obtain ⟨hrk, hrl⟩ := rank_lt (1 + q) n0 (by omega) (by omega) hn0
    have hup := rank_up zs (rankOf (1 + q) n0) (by rw [HN.out]; exact hrl)
    have hbe := rank_be zs (rankOf (1 + q) n0) (by rw [HN.out]; exact hrl)
    have hha := Lib.hid (rank_has zs (rankOf (1 + q) n0) (by rw [HN.out]; exact hrl))
    generalize (sortZ zs).getD (rankOf (1 + q) n0) 0 = x at HP hup hbe hha
    generalize rankOf (1 + q) n0 = r at hrk hup hbe
    go_enter Try.func5, Try.ntmps5
    go_wp2_with fail
    refine (HM.out _).mono ?_
    rintro e w1 ⟨rfl, rfl⟩
    go_wp2_with fail
    refine HP.out.mono ?_
    rintro e w1 ⟨rfl, hb1⟩
    have HLW := Lib.hid (HL.out.below hb1)
    clear HP HM
    go_wp2_with fail
    go_loop [10, 11, 12, 14, 45] (fun u b i _ k => ∃ j : Nat, j ≤ n0 ∧ k = .int .i64 j ∧ u = .int .i64 (upN x (zs.take j)) ∧ b = .int .i64 (beN x (zs.take j)) ∧ i = .bool (hasN x (zs.take j))) (fun _ _ _ _ k => n0 - (intOf k).toNat)
    case atStart => exact ⟨0, by omega, rfl, rfl, rfl, rfl⟩
    case round =>
      obtain ⟨j, hj, rfl, rfl, rfl, rfl⟩ := hrel
      rcases (show j = n0 ∨ j < n0 by omega) with rfl | hlt
      · have ht : zs.take j = zs := List.take_of_length_le (by have := HN.out; omega)
        rw [ht, hha.out]
        have hm : (1 + q) * (j : Int) ≤ (upN x zs : Int) * 100 := by omega
        have hm2 : (beN x zs : Int) * 100 < (1 + q) * (j : Int) := by omega
        have a : (1 : Int) * j ≤ (1 + q) * j := Int.mul_le_mul_of_nonneg_right (by omega) (by omega)
        have b : (1 + q) * j ≤ 100 * (j : Int) := Int.mul_le_mul_of_nonneg_right (by omega) (by omega)
        have u1 : (upN x zs : Int) ≤ 300 := by have := upN_le x zs; have := HN.out; omega
        have u2 : (beN x zs : Int) ≤ 300 := by have := beN_le x zs; have := HN.out; omega
        clear hup hbe hrk
        go_wp2_with fail
        refine (HA.out _).mono ?_
        rintro e w2 ⟨rfl, hb2⟩
        go_wp2
        go_ret
        exact ⟨rfl, hb1.trans (hb2.mono hb1.size)⟩
      · obtain ⟨ad, rfl, had, hcell⟩ := HLW.out.int (k := j) (by have := HN.out; omega)
        have hts := take_more zs j (by have := HN.out; omega)
        have HU := Lib.hid (upN_snoc x (zs.take j) (zs.getD j 0))
        have HB := Lib.hid (beN_snoc x (zs.take j) (zs.getD j 0))
        have HH := Lib.hid (hasN_snoc x (zs.take j) (zs.getD j 0))
        rw [← hts] at HU HB HH
        clear hts
        have u1 : (upN x (zs.take j) : Int) ≤ 300 := by have h1 := upN_le x (zs.take j); rw [List.length_take] at h1; omega
        have u2 : (beN x (zs.take j) : Int) ≤ 300 := by have h1 := beN_le x (zs.take j); rw [List.length_take] at h1; omega
        generalize zs.getD j 0 = v at hcell HU HB HH
        generalize upN x (zs.take j) = u at HU u1
        generalize beN x (zs.take j) = b at HB u2
        generalize hasN x (zs.take j) = i at HH
        rcases Int.lt_trichotomy v x with h | h | h
        · have h1 : v ≤ x := by omega
          have h2 : (v == x) = false := by simp; omega
          cases i
          all_goals
            go_wp2
            go_round
            case measure => simp [intOf]; omega
            case rel => exact ⟨j + 1, by omega, by go_num, by rw [HU.out, if_pos h1]; go_num, by rw [HB.out, if_pos h]; go_num, by rw [HH.out]; first | (simp; done) | (simp; omega)⟩
        · subst h
          cases i
          all_goals
            go_wp2
            go_round
            case measure => simp [intOf]; omega
            case rel => exact ⟨j + 1, by omega, by go_num, by rw [HU.out, if_pos (Int.le_refl _)]; go_num, by rw [HB.out, if_neg (Int.lt_irrefl _)]; go_num, by rw [HH.out]; simp⟩
        · have h1 : ¬ v ≤ x := by omega
          have h3 : ¬ v < x := by omega
          have h2 : (v == x) = false := by simp; omega
          cases i
          all_goals
            go_wp2
            go_round
            case measure => simp [intOf]; omega
            case rel => exact ⟨j + 1, by omega, by go_num, by rw [HU.out, if_neg h1]; go_num, by rw [HB.out, if_neg h3]; go_num, by rw [HH.out]; first | (simp; done) | (simp; omega)⟩
end Go.Proofs.Ytlehkllcbedkhaa
