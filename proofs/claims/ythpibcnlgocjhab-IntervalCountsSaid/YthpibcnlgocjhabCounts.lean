/-
  IntervalCounts (layer 39): the walk. The program counts what the reference counts, whatever the numbers are. No condition on the arguments.
-/
import Derived.Test.YthpibcnlgocjhabCountsAll
import Derived.Deep.RegionHeld3
import Derived.Deep.DeepCutAuto
namespace Go.Proofs.Ythpibcnlgocjhab
open Go.RowKit

set_option maxHeartbeats 8000000 in
set_option maxRecDepth 100000 in
theorem counts_any (n k m t : Int) (w : World) : Calls Try.prog 3 #[.int .i64 n, .int .i64 k, .int .i64 m, .int .i64 t] w fun e w' => e = .returned (.bool true) ∧ Below w.heap.size w w' := by
  go_enter Try.func3, Try.ntmps3
  go_wp2_with fail
  refine (mod_any _ _ _ (by omega) (by omega)).mono ?_
  rintro e w1 ⟨rfl, rfl⟩
  have p0 := Int.emod_nonneg n (show (61 : Int) ≠ 0 by omega)
  have p1 := Int.emod_lt_of_pos n (show (0 : Int) < 61 by omega)
  generalize n % 61 = p at p0 p1
  go_wp2_with fail
  refine (mod_any _ _ _ (by omega) (by omega)).mono ?_
  rintro e w1 ⟨rfl, rfl⟩
  have a0 := Int.emod_nonneg k (show p + 1 ≠ 0 by omega)
  have a1 := Int.emod_lt_of_pos k (show 0 < p + 1 by omega)
  generalize k % (p + 1) = a at a0 a1
  go_wp2_with fail
  refine (mod_any _ _ _ (by omega) (by omega)).mono ?_
  rintro e w1 ⟨rfl, rfl⟩
  have b0 := Int.emod_nonneg m (show p + 1 ≠ 0 by omega)
  have b1 := Int.emod_lt_of_pos m (show 0 < p + 1 by omega)
  generalize m % (p + 1) = b at b0 b1
  go_wp2_with fail
  refine (mod_any _ _ _ (by omega) (by omega)).mono ?_
  rintro e w1 ⟨rfl, rfl⟩
  have c0 := Int.emod_nonneg t (show p + 4 ≠ 0 by omega)
  have c1 := Int.emod_lt_of_pos t (show 0 < p + 4 by omega)
  generalize t % (p + 4) = c at c0 c1
  go_wp2_with fail
  refine (mod_any _ _ _ (by omega) (by omega)).mono ?_
  rintro e w1 ⟨rfl, rfl⟩
  have d0 := Int.emod_nonneg n (show (64 : Int) ≠ 0 by omega)
  have d1 := Int.emod_lt_of_pos n (show (0 : Int) < 64 by omega)
  generalize n % 64 = d at d0 d1
  go_wp2_with fail
  refine (mod_any _ _ _ (by omega) (by omega)).mono ?_
  rintro e w1 ⟨rfl, rfl⟩
  have e0 := Int.emod_nonneg k (show (64 : Int) ≠ 0 by omega)
  have e1 := Int.emod_lt_of_pos k (show (0 : Int) < 64 by omega)
  generalize k % 64 = f at e0 e1
  go_wp2_with fail
  refine (mod_any _ _ _ (by omega) (by omega)).mono ?_
  rintro e w1 ⟨rfl, rfl⟩
  have g0 := Int.emod_nonneg m (show (64 : Int) ≠ 0 by omega)
  have g1 := Int.emod_lt_of_pos m (show (0 : Int) < 64 by omega)
  generalize m % 64 = h at g0 g1
  go_wp2_with fail
  generalize hws : World.alloc (World.alloc (World.alloc (World.alloc w (.cells #[.int .i64 n, .int .i64 k, .int .i64 m, .int .i64 t] 3)) (.cells #[.int .i64 p, .int .i64 a, .int .i64 b, .int .i64 (c - 2)] 3)) (.cells #[.int .i64 (d - 2), .int .i64 (f - 2), .int .i64 (h - 2), .int .i64 t] 3))
    (.cells #[.slice (some ⟨w.heap.size, 0, none⟩) 4 4, .slice (some ⟨w.heap.size + 1, 0, none⟩) 4 4, .slice (some ⟨w.heap.size + 1 + 1, 0, none⟩) 4 4] 23) = ws
  have hbelS : Below w.heap.size w ws := by rw [← hws]; exact ((((Below.refl _ _).alloc (Nat.le_refl _) _).alloc (by simp) _).alloc (by simp; omega) _).alloc (by simp; omega) _
  have hx0 : Box w.heap.size 3 #[.int .i64 n, .int .i64 k, .int .i64 m, .int .i64 t] ws := by rw [← hws]; exact (((Box.made _ _ _).past _).past _).past _
  have hx1 : Box (w.heap.size + 1) 3 #[.int .i64 p, .int .i64 a, .int .i64 b, .int .i64 (c - 2)] ws := by rw [← hws]; exact ((Box.madeAt (by simp)).past _).past _
  have hx2 : Box (w.heap.size + 1 + 1) 3 #[.int .i64 (d - 2), .int .i64 (f - 2), .int .i64 (h - 2), .int .i64 t] ws := by rw [← hws]; exact (Box.madeAt (by simp)).past _
  have hx3 : Box (w.heap.size + 1 + 1 + 1) 23 #[.slice (some ⟨w.heap.size, 0, none⟩) 4 4, .slice (some ⟨w.heap.size + 1, 0, none⟩) 4 4, .slice (some ⟨w.heap.size + 1 + 1, 0, none⟩) 4 4] ws := by rw [← hws]; exact Box.madeAt (by simp)
  clear hws
  have hrows : ∀ i : Nat, i < 3 → ∃ (gk : Nat) (x y z u : Int), ws.cell? ⟨w.heap.size + 1 + 1 + 1, i, none⟩ = some (.slice (some ⟨gk, 0, none⟩) 4 4) ∧ Box gk 3 #[.int .i64 x, .int .i64 y, .int .i64 z, .int .i64 u] ws := by
    intro i hi
    rw [hx3.at_ i]
    match i, hi with
    | 0, _ => exact ⟨_, _, _, _, _, rfl, hx0⟩
    | 1, _ => exact ⟨_, _, _, _, _, rfl, hx1⟩
    | 2, _ => exact ⟨_, _, _, _, _, rfl, hx2⟩
  have HR := Lib.hid hrows; clear hrows
  have hlt3 := hx3.inside
  clear hx0 hx1 hx2 hx3
  go_loopw [59] (fun i wr => ∃ j : Nat, j ≤ 3 ∧ i = .int .i64 j ∧ Below ws.heap.size ws wr) (fun i _ => 3 - (intOf i).toNat)
  case atStart => exact ⟨0, by omega, rfl, Below.refl _ _⟩
  case round =>
    obtain ⟨j, hj, rfl, hbel⟩ := hrel
    by_cases hlt : j < 3
    · obtain ⟨gk, x, y, z, u, hc, hB⟩ := HR.out j hlt
      have hc' : wr.cell? ⟨w.heap.size + 1 + 1 + 1, j, none⟩ = some (.slice (some ⟨gk, 0, none⟩) 4 4) := (hbel.cell (p := ⟨w.heap.size + 1 + 1 + 1, j, none⟩) hlt3).trans hc
      have hBr := hB.under hbel hB.inside
      have k0 : wr.cell? ⟨gk, 0, none⟩ = some (.int .i64 x) := hBr.at_ 0
      have k1 : wr.cell? ⟨gk, 1, none⟩ = some (.int .i64 y) := hBr.at_ 1
      have k2 : wr.cell? ⟨gk, 2, none⟩ = some (.int .i64 z) := hBr.at_ 2
      have k3 : wr.cell? ⟨gk, 3, none⟩ = some (.int .i64 u) := hBr.at_ 3
      have hgk := hBr.inside
      clear hc k0 k1 k2 k3
      have k0 : wr.cell? ⟨gk, 0, none⟩ = some (.int .i64 x) := hBr.at_ 0
      have k1 : wr.cell? ⟨gk, 1, none⟩ = some (.int .i64 y) := hBr.at_ 1
      go_upto_region 5 with fail
      go_cut [12, 13] (fun v e wx => v = .int .i64 (chV x y) ∧ e = .int .i64 (chE x y) ∧ Below wr.heap.size wr wx)
      case first =>
        go_region_held3 (fun w' => w'.cell? ⟨gk, 0, none⟩ = some (.int .i64 x) ∧ w'.cell? ⟨gk, 1, none⟩ = some (.int .i64 y))
          (first | go_keep | (go_split_ands; refine ⟨?_, ?_⟩ <;> (rw [hb1.cell (by simpa using hgk)]; assumption)))
          ((go_at_call 6; refine (choose_all x y _).mono ?_; rintro e w1 ⟨rfl, hb1⟩))
        go_wp2_with fail
        go_meet
        exact ⟨rfl, rfl, (Below.refl _ _).drew.trans hb1⟩
      case rest =>
        obtain ⟨w_0, rfl⟩ : ∃ x : World, x = wc := ⟨_, rfl⟩
        obtain ⟨rfl, rfl, hbc⟩ := hcut
        replace hBr := hBr.under hbc hgk
        replace hbel := hbel.trans (hbc.mono hbel.size)
        replace hgk := hBr.inside
        clear hbc k0 k1 hc'
        have k0 : w_0.cell? ⟨gk, 0, none⟩ = some (.int .i64 x) := hBr.at_ 0
        have k1 : w_0.cell? ⟨gk, 1, none⟩ = some (.int .i64 y) := hBr.at_ 1
        go_upto_region 6 with fail
        go_cut [14, 15] (fun v e wx => v = .int .i64 (chV x y) ∧ e = .int .i64 (chE x y) ∧ Below w_0.heap.size w_0 wx)
        case first =>
          go_region_held3 (fun w' => w'.cell? ⟨gk, 0, none⟩ = some (.int .i64 x) ∧ w'.cell? ⟨gk, 1, none⟩ = some (.int .i64 y))
            (first | go_keep | (go_split_ands; refine ⟨?_, ?_⟩ <;> (rw [hb1.cell (by simpa using hgk)]; assumption)))
            ((go_at_call 7; refine (rch_all x y _).mono ?_; rintro e w1 ⟨rfl, hb1⟩))
          go_wp2_with fail
          go_meet
          exact ⟨rfl, rfl, (Below.refl _ _).drew.trans hb1⟩
        case rest =>
          obtain ⟨w_1, rfl⟩ : ∃ x : World, x = wc := ⟨_, rfl⟩
          obtain ⟨rfl, rfl, hbc⟩ := hcut
          replace hBr := hBr.under hbc hgk
          replace hbel := hbel.trans (hbc.mono hbel.size)
          replace hgk := hBr.inside
          clear hbc k0 k1
          have k0 : w_1.cell? ⟨gk, 0, none⟩ = some (.int .i64 x) := hBr.at_ 0
          have k1 : w_1.cell? ⟨gk, 1, none⟩ = some (.int .i64 y) := hBr.at_ 1
          have k2 : w_1.cell? ⟨gk, 2, none⟩ = some (.int .i64 z) := hBr.at_ 2
          have k3 : w_1.cell? ⟨gk, 3, none⟩ = some (.int .i64 u) := hBr.at_ 3
          go_upto_region 7 with fail
          go_cut [16, 17] (fun v e wx => v = .int .i64 (leV x y z u) ∧ e = .int .i64 (pE x y z) ∧ Below w_1.heap.size w_1 wx)
          case first =>
            go_region_held3 (fun w' => w'.cell? ⟨gk, 0, none⟩ = some (.int .i64 x) ∧ w'.cell? ⟨gk, 1, none⟩ = some (.int .i64 y) ∧ w'.cell? ⟨gk, 2, none⟩ = some (.int .i64 z) ∧ w'.cell? ⟨gk, 3, none⟩ = some (.int .i64 u))
              (first | go_keep | (go_split_ands; refine ⟨?_, ?_, ?_, ?_⟩ <;> (rw [hb1.cell (by simpa using hgk)]; assumption)))
              ((go_at_call 8; refine (least_all x y z u _).mono ?_; rintro e w1 ⟨rfl, hb1⟩))
            go_wp2_with fail
            go_meet
            exact ⟨rfl, rfl, (Below.refl _ _).drew.trans hb1⟩
          case rest =>
            obtain ⟨w_2, rfl⟩ : ∃ x : World, x = wc := ⟨_, rfl⟩
            obtain ⟨rfl, rfl, hbc⟩ := hcut
            replace hBr := hBr.under hbc hgk
            replace hbel := hbel.trans (hbc.mono hbel.size)
            replace hgk := hBr.inside
            clear hbc k0 k1 k2 k3
            have k0 : w_2.cell? ⟨gk, 0, none⟩ = some (.int .i64 x) := hBr.at_ 0
            have k1 : w_2.cell? ⟨gk, 1, none⟩ = some (.int .i64 y) := hBr.at_ 1
            have k2 : w_2.cell? ⟨gk, 2, none⟩ = some (.int .i64 z) := hBr.at_ 2
            have k3 : w_2.cell? ⟨gk, 3, none⟩ = some (.int .i64 u) := hBr.at_ 3
            go_upto_region 8 with fail
            go_cut [18, 19] (fun v e wx => v = .int .i64 (leV x y z u) ∧ e = .int .i64 (pE x y z) ∧ Below w_2.heap.size w_2 wx)
            case first =>
              go_region_held3 (fun w' => w'.cell? ⟨gk, 0, none⟩ = some (.int .i64 x) ∧ w'.cell? ⟨gk, 1, none⟩ = some (.int .i64 y) ∧ w'.cell? ⟨gk, 2, none⟩ = some (.int .i64 z) ∧ w'.cell? ⟨gk, 3, none⟩ = some (.int .i64 u))
                (first | go_keep | (go_split_ands; refine ⟨?_, ?_, ?_, ?_⟩ <;> (rw [hb1.cell (by simpa using hgk)]; assumption)))
                ((go_at_call 9; refine (rleast_all x y z u _).mono ?_; rintro e w1 ⟨rfl, hb1⟩))
              go_wp2_with fail
              go_meet
              exact ⟨rfl, rfl, (Below.refl _ _).drew.trans hb1⟩
            case rest =>
              obtain ⟨w_3, rfl⟩ : ∃ x : World, x = wc := ⟨_, rfl⟩
              obtain ⟨rfl, rfl, hbc⟩ := hcut
              replace hBr := hBr.under hbc hgk
              replace hbel := hbel.trans (hbc.mono hbel.size)
              replace hgk := hBr.inside
              clear hbc k0 k1 k2 k3
              have k0 : w_3.cell? ⟨gk, 0, none⟩ = some (.int .i64 x) := hBr.at_ 0
              have k1 : w_3.cell? ⟨gk, 1, none⟩ = some (.int .i64 y) := hBr.at_ 1
              have k2 : w_3.cell? ⟨gk, 2, none⟩ = some (.int .i64 z) := hBr.at_ 2
              have k3 : w_3.cell? ⟨gk, 3, none⟩ = some (.int .i64 u) := hBr.at_ 3
              go_upto_region 9 with fail
              go_cut [20, 21] (fun v e wx => v = .int .i64 (moV x y z u) ∧ e = .int .i64 (pE x y z) ∧ Below w_3.heap.size w_3 wx)
              case first =>
                go_region_held3 (fun w' => w'.cell? ⟨gk, 0, none⟩ = some (.int .i64 x) ∧ w'.cell? ⟨gk, 1, none⟩ = some (.int .i64 y) ∧ w'.cell? ⟨gk, 2, none⟩ = some (.int .i64 z) ∧ w'.cell? ⟨gk, 3, none⟩ = some (.int .i64 u))
                  (first | go_keep | (go_split_ands; refine ⟨?_, ?_, ?_, ?_⟩ <;> (rw [hb1.cell (by simpa using hgk)]; assumption)))
                  ((go_at_call 10; refine (most_all x y z u _).mono ?_; rintro e w1 ⟨rfl, hb1⟩))
                go_wp2_with fail
                go_meet
                exact ⟨rfl, rfl, (Below.refl _ _).drew.trans hb1⟩
              case rest =>
                obtain ⟨w_4, rfl⟩ : ∃ x : World, x = wc := ⟨_, rfl⟩
                obtain ⟨rfl, rfl, hbc⟩ := hcut
                replace hBr := hBr.under hbc hgk
                replace hbel := hbel.trans (hbc.mono hbel.size)
                replace hgk := hBr.inside
                clear hbc k0 k1 k2 k3
                have k0 : w_4.cell? ⟨gk, 0, none⟩ = some (.int .i64 x) := hBr.at_ 0
                have k1 : w_4.cell? ⟨gk, 1, none⟩ = some (.int .i64 y) := hBr.at_ 1
                have k2 : w_4.cell? ⟨gk, 2, none⟩ = some (.int .i64 z) := hBr.at_ 2
                have k3 : w_4.cell? ⟨gk, 3, none⟩ = some (.int .i64 u) := hBr.at_ 3
                go_upto_region 10 with fail
                go_cut [22, 23] (fun v e wx => v = .int .i64 (moV x y z u) ∧ e = .int .i64 (pE x y z) ∧ Below w_4.heap.size w_4 wx)
                case first =>
                  go_region_held3 (fun w' => w'.cell? ⟨gk, 0, none⟩ = some (.int .i64 x) ∧ w'.cell? ⟨gk, 1, none⟩ = some (.int .i64 y) ∧ w'.cell? ⟨gk, 2, none⟩ = some (.int .i64 z) ∧ w'.cell? ⟨gk, 3, none⟩ = some (.int .i64 u))
                    (first | go_keep | (go_split_ands; refine ⟨?_, ?_, ?_, ?_⟩ <;> (rw [hb1.cell (by simpa using hgk)]; assumption)))
                    ((go_at_call 11; refine (rmost_all x y z u _).mono ?_; rintro e w1 ⟨rfl, hb1⟩))
                  go_wp2_with fail
                  go_meet
                  exact ⟨rfl, rfl, (Below.refl _ _).drew.trans hb1⟩
                case rest =>
                  obtain ⟨w_5, rfl⟩ : ∃ x : World, x = wc := ⟨_, rfl⟩
                  obtain ⟨rfl, rfl, hbc⟩ := hcut
                  replace hBr := hBr.under hbc hgk
                  replace hbel := hbel.trans (hbc.mono hbel.size)
                  replace hgk := hBr.inside
                  clear hbc k0 k1 k2 k3
                  go_wp2
                  go_roundw
                  case rel => exact ⟨j + 1, by omega, by go_num, hbel⟩
                  case measure => simp [intOf]; omega
    · go_wp2_with fail
      refine (awake_any _).mono ?_
      rintro e w3 ⟨rfl, hb3⟩
      go_wp2
      go_ret
      have hb4 := hbelS.trans (hbel.mono hbelS.size)
      exact ⟨rfl, hb4.trans (hb3.mono hb4.size)⟩
end Go.Proofs.Ythpibcnlgocjhab
