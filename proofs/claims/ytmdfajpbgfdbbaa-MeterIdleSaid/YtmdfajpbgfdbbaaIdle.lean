/-
  'MeterIdle' (layer 12): the walk. Without arrivals a bucket fills up, and nothing is granted. No condition on the arguments.
-/
import Derived.Test.YtmdfajpbgfdbbaaMeter
import Derived.RegionTactic
import Derived.BigRegion
import Derived.Deep.RegionWith
import Derived.Laws.MakeOwn
namespace Go.Proofs.Ytmdfajpbgfdbbaa
open Go.RowKit

theorem Box.madeAt {g : Nat} {w : World} {t : TypeId} {cs : Array Value} (h : g = w.heap.size) : Box g t cs (w.alloc (.cells cs t)) := by subst h; exact Box.made _ _ _

theorem lvl_zeros (R B : Int) (hR : 0 ≤ R) : ∀ (n : Nat) (L : Int), 0 ≤ L → L ≤ B → (R = 0 → lvl R B L (List.replicate n 0) = L) ∧ (0 < R → min (L + n) B ≤ lvl R B L (List.replicate n 0)) := by
  intro n
  induction n with
  | zero => intro L h0 h1; simp [lvl]; omega
  | succ n ih =>
    intro L h0 h1
    have hs : step R B L 0 = min (L + R) B := by unfold step g; omega
    have e : lvl R B L (List.replicate (n + 1) 0) = lvl R B (min (L + R) B) (List.replicate n 0) := by rw [List.replicate_succ]; simp only [lvl, List.foldl_cons, hs]
    have hi := ih (min (L + R) B) (by omega) (by omega)
    rw [e]
    refine ⟨fun hr => by rw [hi.1 hr]; omega, fun hr => ?_⟩
    have := hi.2 hr
    omega
theorem gr_zeros (R B : Int) (hR : 0 ≤ R) : ∀ (n : Nat) (L : Int), 0 ≤ L → L ≤ B → gr R B L (List.replicate n 0) = List.replicate n 0 := by
  intro n
  induction n with
  | zero => intro L _ _; rfl
  | succ n ih =>
    intro L h0 h1
    have hs : step R B L 0 = min (L + R) B := by unfold step g; omega
    rw [List.replicate_succ]
    show g 0 L :: gr R B (step R B L 0) (List.replicate n 0) = _
    rw [hs, ih _ (by omega) (by omega), show g 0 L = 0 by unfold g; omega]

theorem old_cells {w w1 : World} (hb : Below w.heap.size w w1) :
    (∀ b o, b < w.heap.size → w1.cell? ⟨b, o, none⟩ = w.cell? ⟨b, o, none⟩) ∧ (∀ b o, b < w.heap.size → w1.frozen? ⟨b, o, none⟩ = w.frozen? ⟨b, o, none⟩) :=
  ⟨fun b o h => hb.cell (p := ⟨b, o, none⟩) h, fun b o h => hb.frozen (p := ⟨b, o, none⟩) h⟩
theorem heap_alloc_push (w : World) (o : Obj) : (w.alloc o).heap = w.heap.push o := rfl
theorem heap_of_drew (w : World) : w.drew.heap = w.heap := rfl
theorem lies_zeros {b B n : Nat} {W : World} (h : Box b 3 (madeCells #[.int .i64 0] n) W) (hB : b < B) : Lies B (some ⟨b, 0, none⟩) ((List.replicate n (0 : Int)).map (Value.int .i64)) W := by
  intro k hk
  simp at hk
  refine ⟨_, .int .i64 0, rfl, hB, by simp [hk], ?_⟩
  have h1 := h.at_ k
  have e : (⟨b, 0, none⟩ : Addr).add k = ⟨b, k, none⟩ := by
    unfold Addr.add
    by_cases h : k = 0 <;> simp [h]
  rw [e, h1]
  simp [madeCells, hk, Nat.mod_one]

theorem run_zeros (L R : Int) (n b c : Nat) (w : World) (h0 : 0 ≤ L) (h1 : L < n + 1) (h2 : 0 ≤ R) (h3 : R < n + 1) (h4 : (n : Int) < 40) (hB : Box b 3 (madeCells #[.int .i64 0] n) w) :
    Calls Try.prog 8 #[.agg #[.int .i64 L, .int .i64 R, .int .i64 n], .slice (some ⟨b, 0, none⟩) n c] w fun e w' => ∃ v, e = .returned (.tuple #[.agg #[.int .i64 (lvl R n L (List.replicate n 0)), .int .i64 R, .int .i64 n], v]) ∧
      w'.ownsRow (w.heap.size + 2) 3 1 v n ((List.replicate n 0).map (Value.int .i64)) ∧ Below w.heap.size w w' := by
  refine (run_any L R n _ n _ (List.replicate n 0) w h0 (by omega) h2 (by omega) (by omega) (by omega) (by simp) (lies_zeros hB hB.inside)).mono ?_
  rintro e w2 ⟨v, rfl, hown, hbe⟩
  rw [gr_zeros R n h2 n L h0 (by omega)] at hown
  exact ⟨v, rfl, hown, hbe⟩

theorem own_less {w : World} {base base' n : Nat} {e : TypeId} {size : Nat} {v : Value} {xs : List Value} (h : w.ownsRow base e size v n xs) (hb : base' ≤ base) : w.ownsRow base' e size v n xs := by
  obtain ⟨h1, h2 | ⟨g, cap, cur, h2, h3, h4⟩⟩ := h
  · exact ⟨h1, .inl h2⟩
  · exact ⟨h1, .inr ⟨g, cap, cur, h2, by omega, h4⟩⟩

theorem own_open {w : World} {base n : Nat} {e : TypeId} {v : Value} {xs : List Value} (h : w.ownsRow base e 1 v n xs) : ∃ A c, v = .slice A n c ∧ n ≤ c ∧ c ≤ maxLen ∧ xs.length = n ∧ Lies w.heap.size A xs w := by
  have hl : xs.length = n := by have := h.1; omega
  rcases h.2 with ⟨rfl, rfl⟩ | ⟨g, cap, cur, rfl, _, _, h1, h2, _⟩
  · exact ⟨none, 0, rfl, Nat.le_refl _, Nat.zero_le _, hl, fun k hk => absurd hk (by omega)⟩
  · exact ⟨_, cap, rfl, h1, h2, hl, Lies.own h⟩

/-- What the statement 'x, got := Run(b, make(..))' leaves: the result's box is laid behind the call .. -/
theorem left_behind {w W w2 : World} {n : Nat} {v : Value} {xs : List Value} {b0 b1 : Array Value} (hbe : Below W.heap.size W w2) (hown : w2.ownsRow (W.heap.size + 2) 3 1 v n xs) (hB : Box w.heap.size 26 b0 W) (hW : Below w.heap.size w W) :
    Box w2.heap.size 26 b1 (w2.alloc (.cells b1 26)) ∧ (w2.alloc (.cells b1 26)).ownsRow (w.heap.size + 1) 3 1 v n xs ∧ Box w.heap.size 26 b0 (w2.alloc (.cells b1 26)) ∧ Below w.heap.size w (w2.alloc (.cells b1 26)) :=
  ⟨Box.made _ _ _, own_less (hown.alloc _) (by have := hW.size; omega), (hB.under hbe hB.inside).past _, (hW.trans (hbe.mono hW.size)).alloc (by have := hW.size; have := hbe.size; omega) _⟩
/-- .. or ahead of it, and written behind it. -/
theorem left_ahead {w W w2 : World} {n g : Nat} {v u0 u1 u2 : Value} {xs : List Value} {b0 : Array Value} (hbe : Below W.heap.size W w2) (hown : w2.ownsRow (W.heap.size + 2) 3 1 v n xs) (hB : Box w.heap.size 26 b0 W) (hW : Below w.heap.size w W)
    (hg : Box g 26 #[.int .i64 0, .int .i64 0, .int .i64 0] W) (hgn : w.heap.size < g) :
    Box g 26 #[u0, u1, u2] (((w2.setCell ⟨g, 0, none⟩ u0).setCell ⟨g, 1, none⟩ u1).setCell ⟨g, 2, none⟩ u2) ∧ (((w2.setCell ⟨g, 0, none⟩ u0).setCell ⟨g, 1, none⟩ u1).setCell ⟨g, 2, none⟩ u2).ownsRow (w.heap.size + 1) 3 1 v n xs ∧
      Box w.heap.size 26 b0 (((w2.setCell ⟨g, 0, none⟩ u0).setCell ⟨g, 1, none⟩ u1).setCell ⟨g, 2, none⟩ u2) ∧ Below w.heap.size w (((w2.setCell ⟨g, 0, none⟩ u0).setCell ⟨g, 1, none⟩ u1).setCell ⟨g, 2, none⟩ u2) := by
  have hlt := hg.inside
  have own3 := fun (i : Nat) (u : Value) (U : World) (h : U.ownsRow (W.heap.size + 2) 3 1 v n xs) => ownsRow_setCell_below h (a := ⟨g, i, none⟩) (by show g < W.heap.size + 2; omega) u
  refine ⟨(((hg.under hbe hlt).put 0 _).put 1 _).put 2 _, own_less (own3 _ _ _ (own3 _ _ _ (own3 _ _ _ hown))) (by have := hW.size; omega), (((hB.under hbe hB.inside).aside ?_ _).aside ?_ _).aside ?_ _,
    ((((hW.trans (hbe.mono hW.size))).setCell (p := ⟨g, 0, none⟩) ?_ _).setCell (p := ⟨g, 1, none⟩) ?_ _).setCell (p := ⟨g, 2, none⟩) ?_ _⟩
  all_goals (simp; omega)

set_option maxHeartbeats 6000000 in
theorem idle_any (a0 a1 a2 : Int) (w : World) : Calls Try.prog 5 #[.int .i64 a0, .int .i64 a1, .int .i64 a2] w fun e w' => e = .returned (.bool true) ∧ Below w.heap.size w w' := by
  obtain ⟨i0, hi, hz0, hz1, hz2⟩ := info_parts Try.info3
  go_enter Try.func5, Try.ntmps5
  go_wp2_with fail
  refine (mod_any _ _ _ (by omega) (by omega)).mono ?_
  rintro e w1 ⟨rfl, rfl⟩
  have hb0 := Int.emod_nonneg a1 (show (40 : Int) ≠ 0 by omega)
  have hb1 := Int.emod_lt_of_pos a1 (show (0 : Int) < 40 by omega)
  generalize a1 % 40 = B at hb0 hb1
  obtain ⟨n, rfl⟩ := Int.eq_ofNat_of_zero_le hb0
  go_wp2_with fail
  refine (mod_any _ _ _ (by omega) (by omega)).mono ?_
  rintro e w1 ⟨rfl, rfl⟩
  have hr0 := Int.emod_nonneg a0 (show ((n : Int) + 1) ≠ 0 by omega)
  have hr1 := Int.emod_lt_of_pos a0 (show (0 : Int) < n + 1 by omega)
  generalize a0 % ((n : Int) + 1) = R at hr0 hr1
  go_wp2_with fail
  refine (mod_any _ _ _ (by omega) (by omega)).mono ?_
  rintro e w1 ⟨rfl, rfl⟩
  have hl0 := Int.emod_nonneg a2 (show ((n : Int) + 1) ≠ 0 by omega)
  have hl1 := Int.emod_lt_of_pos a2 (show (0 : Int) < n + 1 by omega)
  generalize a2 % ((n : Int) + 1) = L at hl0 hl1
  have hmk := fun W : World => run_make (P := Try.prog) W 22 3 i0 (.int .i64 0) Try.underlying22 hi hz0 .i64 .i64 n n (by omega) (by omega) (by rw [hz2]; omega) (by omega)
  rw [hz1] at hmk
  simp only [Nat.mul_one, Int.toNat_natCast] at hmk
  go_wp2_with fail
  go_upto_region 4 with fail
  go_cut [8, 9] (fun p s wx => ∃ g : Nat, p = .pointer (some ⟨g, 0, none⟩) ∧ Box g 26 #[.int .i64 (lvl R n L (List.replicate n 0)), .int .i64 R, .int .i64 n] wx ∧
     wx.ownsRow (w.heap.size + 1) 3 1 s n ((List.replicate n 0).map (Value.int .i64)) ∧ Box w.heap.size 26 #[.int .i64 L, .int .i64 R, .int .i64 n] wx ∧ Below w.heap.size w wx)
  case first => 
    go_region_with (go_at_call 8; refine (run_zeros L R n _ n _ hl0 hl1 hr0 hr1 hb1 (by first | exact Box.drawn (Box.madeAt (by simp)) | exact Box.drawn ((Box.madeAt (by simp)).past _) | exact Box.madeAt (by simp) | exact (Box.madeAt (by simp)).past _)).mono ?_; rintro e w2 ⟨v, rfl, hown, hbe⟩; obtain ⟨hoc, hof⟩ := old_cells hbe)
    all_goals (go_wp2_with fail; go_meet; refine ⟨_, rfl, ?_⟩)
    all_goals first
      | refine left_behind (w := w) hbe hown ?_ ?_
      | refine left_ahead (w := w) hbe hown ?_ ?_ ?_ ?_
    all_goals first
      | ((repeat (first | exact Box.made _ _ _ | (refine Box.madeAt ?_; simp; done) | refine Box.past ?_ _ | refine Box.drawn ?_)); done)
      | ((repeat (first | exact Below.refl _ _ | refine Below.drew ?_ | refine Below.alloc ?_ (by simp; omega) _ | refine Below.alloc ?_ (by simp) _)); done)
      | omega
  case rest =>
    obtain ⟨g, rfl, hB, hown, hB0, hbel⟩ := hcut
    obtain ⟨A, c, rfl, hnc, hcm, -, hlies⟩ := own_open hown
    have e0 := hB.at_ 0
    have e1 := hB.at_ 1
    have e2 := hB.at_ 2
    have f0 := hB0.at_ 0
    have f1 := hB0.at_ 1
    have f2 := hB0.at_ 2
    have hgl := hB.inside
    have hgl0 := hB0.inside
    clear hB hB0 hown hmk
    go_wp2_with fail
    go_loop [35] (fun i => ∃ k : Nat, k ≤ n ∧ i = .int .i64 k) (fun i => n - (intOf i).toNat)
    case atStart => exact ⟨0, Nat.zero_le _, rfl⟩
    case round =>
      obtain ⟨k, hk, rfl⟩ := hrel
      by_cases hlt : k < n
      · obtain ⟨a, v, rfl, ha, hx, hc⟩ := hlies k (by simp; omega)
        obtain rfl : v = .int .i64 0 := by simpa [hlt] using hx.symm
        clear hx
        go_wp2_with fail
        go_round
        case rel => exact ⟨k + 1, by omega, by go_num⟩
        case measure => simp [intOf]; omega
      · obtain rfl : k = n := by omega
        clear hk
        by_cases hr : 0 < R
        · have hl : lvl R k L (List.replicate k 0) = k := by
            have h1 := (lvl_zeros R k hr0 k L hl0 (by omega)).2 hr
            have h2 := lvl_bd R k hr0 (List.replicate k 0) L hl0 (by omega)
            omega
          rw [hl] at e0
          clear hl
          go_wp2_with fail
          refine (awake_any _).mono ?_
          rintro e w3 ⟨rfl, hb3⟩
          go_wp2
          go_ret
          refine ⟨rfl, (hbel.alloc hbel.size _).trans (hb3.mono (by have := hbel.size; simp; omega))⟩
        · obtain rfl : R = 0 := by omega
          have hl : lvl 0 k L (List.replicate k 0) = L := (lvl_zeros 0 k (by omega) k L hl0 (by omega)).1 rfl
          rw [hl] at e0
          clear hl
          go_wp2_with fail
          refine (awake_any _).mono ?_
          rintro e w3 ⟨rfl, hb3⟩
          go_wp2
          go_ret
          refine ⟨rfl, (hbel.alloc hbel.size _).trans (hb3.mono (by have := hbel.size; simp; omega))⟩
end Go.Proofs.Ytmdfajpbgfdbbaa
