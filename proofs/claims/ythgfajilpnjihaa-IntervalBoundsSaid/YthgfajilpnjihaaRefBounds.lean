/-
  Layer 39: the bounds for all numbers: the program's answer and the reference's in one form.
-/
import Derived.Test.YthgfajilpnjihaaRefPlaus
namespace Go.Proofs.Ythgfajilpnjihaa
open Go.RowKit

open Classical in
noncomputable def loOf (p s k al : Nat) : Nat := if h : ∃ lo hi, Bnd p s k al lo hi then h.choose else 0
open Classical in
noncomputable def hiOf (p s k al : Nat) : Nat := if h : ∃ lo hi, Bnd p s k al lo hi then h.choose_spec.choose else 0
theorem bnd_of {p s k al lo hi : Nat} (h : Bnd p s k al lo hi) : lo = loOf p s k al ∧ hi = hiOf p s k al := by
  have hex : ∃ lo hi, Bnd p s k al lo hi := ⟨lo, hi, h⟩
  have e1 : loOf p s k al = hex.choose := by unfold loOf; rw [dif_pos hex]
  have e2 : hiOf p s k al = hex.choose_spec.choose := by unfold hiOf; rw [dif_pos hex]
  rw [e1, e2]
  exact bnd_one h hex.choose_spec.choose_spec

def okB (p s k al : Int) : Prop := 0 ≤ p ∧ p ≤ 60 ∧ 0 ≤ s ∧ s ≤ p ∧ 0 ≤ k ∧ k ≤ s ∧ 1 ≤ al ∧ al ≤ 999
instance (p s k al : Int) : Decidable (okB p s k al) := by unfold okB; exact inferInstance
noncomputable def bL (p s k al : Int) : Int := if okB p s k al then (loOf p.toNat s.toNat k.toNat al.toNat : Int) else 0
noncomputable def bH (p s k al : Int) : Int := if okB p s k al then (hiOf p.toNat s.toNat k.toNat al.toNat : Int) else 0
def bE (p s k al : Int) : Int := if okB p s k al then 0 else 1

def Thr (w : World) (x y z : Int) (e : Ending) (w' : World) : Prop := e = .returned (.tuple #[.int .i64 x, .int .i64 y, .int .i64 z]) ∧ Below w.heap.size w w'
theorem thr_ok {w w' : World} {p s k al lo hi : Nat} (h : okB p s k al) (hB : Bnd p s k al lo hi) (hb : Below w.heap.size w w') : Thr w (bL p s k al) (bH p s k al) (bE p s k al) (.returned (.tuple #[.int .i64 lo, .int .i64 hi, .int .i64 0])) w' := by
  refine ⟨?_, hb⟩
  unfold bL bH bE; rw [if_pos h, if_pos h, if_pos h]
  simp only [Int.toNat_natCast]
  rw [← (bnd_of hB).1, ← (bnd_of hB).2]
theorem thr_no {w w' : World} {p s k al : Int} (h : ¬ okB p s k al) (hb : Below w.heap.size w w') : Thr w (bL p s k al) (bH p s k al) (bE p s k al) (.returned (.tuple #[.int .i64 0, .int .i64 0, .int .i64 1])) w' := by
  refine ⟨?_, hb⟩
  unfold bL bH bE; rw [if_neg h, if_neg h, if_neg h]

set_option maxHeartbeats 400000 in
theorem alpha_no (al : Int) (w : World) (h : al < 1 ∨ 999 < al) : Calls Try.prog 20 #[.int .i64 al] w fun e w' => e = .returned (.bool false) ∧ w = w' := by
  go_enter Try.func20, Try.ntmps20
  go_wp2_with fail
  refine (within_no _ _ _ _ h).mono ?_
  rintro e w1 ⟨rfl, rfl⟩
  clear h
  go_wp2
  go_ret
  exact ⟨rfl, rfl⟩

set_option maxHeartbeats 1000000 in
theorem bounds_all (p s k al : Int) (w : World) : Calls Try.prog 9 #[.int .i64 p, .int .i64 s, .int .i64 k, .int .i64 al] w (Thr w (bL p s k al) (bH p s k al) (bE p s k al)) := by
  by_cases hok : okB p s k al
  · have h := hok
    unfold okB at h
    obtain ⟨p, rfl⟩ := Int.eq_ofNat_of_zero_le (show 0 ≤ p by omega)
    obtain ⟨s, rfl⟩ := Int.eq_ofNat_of_zero_le (show 0 ≤ s by omega)
    obtain ⟨k, rfl⟩ := Int.eq_ofNat_of_zero_le (show 0 ≤ k by omega)
    obtain ⟨al, rfl⟩ := Int.eq_ofNat_of_zero_le (show 0 ≤ al by omega)
    refine (bounds_ok p s k al w (by omega) (by omega) (by omega) (by omega) (by omega)).mono ?_
    rintro e w1 ⟨lo, hi, rfl, hB, hb⟩
    exact thr_ok hok hB hb
  · by_cases h1 : p < 0 ∨ 60 < p ∨ s < 0 ∨ p < s
    · have HN := Lib.hid (fun w' (hb : Below w.heap.size w w') => thr_no hok hb)
      clear hok
      go_enter Try.func9, Try.ntmps9
      go_wp2_with fail
      refine (pool_bad p s _ h1).mono ?_
      rintro e w1 ⟨rfl, rfl⟩
      clear h1
      go_wp2
      go_ret3
      exact HN.out _ (Below.refl _ _)
    · obtain ⟨p, rfl⟩ := Int.eq_ofNat_of_zero_le (show 0 ≤ p by omega)
      obtain ⟨s, rfl⟩ := Int.eq_ofNat_of_zero_le (show 0 ≤ s by omega)
      by_cases h2 : al < 1 ∨ 999 < al
      · have HN := Lib.hid (fun w' (hb : Below w.heap.size w w') => thr_no hok hb)
        clear hok
        go_enter Try.func9, Try.ntmps9
        go_wp2_with fail
        refine (pool_yes p s _ (by omega) (by omega)).mono ?_
        rintro e w1 ⟨rfl, rfl⟩
        go_wp2_with fail
        refine (alpha_no al _ h2).mono ?_
        rintro e w1 ⟨rfl, rfl⟩
        clear h1 h2
        go_wp2
        go_ret3
        exact HN.out _ (Below.refl _ _)
      · have h3 : k < 0 ∨ (s : Int) < k := by unfold okB at hok; omega
        have HN := Lib.hid (fun w' (hb : Below w.heap.size w w') => thr_no hok hb)
        obtain ⟨al, rfl⟩ := Int.eq_ofNat_of_zero_le (show 0 ≤ al by omega)
        clear hok
        go_enter Try.func9, Try.ntmps9
        go_wp2_with fail
        refine (pool_yes p s _ (by omega) (by omega)).mono ?_
        rintro e w1 ⟨rfl, rfl⟩
        go_wp2_with fail
        refine (alpha_yes al _ (by omega) (by omega)).mono ?_
        rintro e w1 ⟨rfl, rfl⟩
        go_wp2_with fail
        refine (within_no _ _ _ _ h3).mono ?_
        rintro e w1 ⟨rfl, rfl⟩
        clear h1 h2 h3
        go_wp2
        go_ret3
        exact HN.out _ (Below.refl _ _)

/-! ### The reference -/
/-- What its search has found when it comes to a. -/
def Found (p s k al : Nat) (a : Nat) (l h : Int) : Prop :=
  (l = -1 ∧ h = -1 ∧ ∀ j, k ≤ j → j < a → ¬ Pl p s k al j) ∨
  ∃ lo hi : Nat, l = lo ∧ h = hi ∧ k ≤ lo ∧ lo ≤ hi ∧ hi < a ∧ Pl p s k al lo ∧ Pl p s k al hi ∧ (∀ j, k ≤ j → j < lo → ¬ Pl p s k al j) ∧ (∀ j, hi < j → j < a → ¬ Pl p s k al j)
theorem Found.no {p s k al a : Nat} {l h : Int} (hf : Found p s k al a l h) (hn : ¬ Pl p s k al a) : Found p s k al (a + 1) l h := by
  rcases hf with ⟨h1, h2, h3⟩ | ⟨lo, hi, h1, h2, h3, h4, h5, h6, h7, h8, h9⟩
  · refine .inl ⟨h1, h2, fun j hj hj2 => ?_⟩
    rcases Nat.lt_or_ge j a with h | h
    · exact h3 j hj h
    · obtain rfl : j = a := by omega
      exact hn
  · refine .inr ⟨lo, hi, h1, h2, h3, h4, by omega, h6, h7, h8, fun j hj hj2 => ?_⟩
    rcases Nat.lt_or_ge j a with h | h
    · exact h9 j hj h
    · obtain rfl : j = a := by omega
      exact hn
theorem Found.first {p s k al a : Nat} {l h : Int} (hf : Found p s k al a l h) (hy : Pl p s k al a) (hk : k ≤ a) (hl : l < 0) : Found p s k al (a + 1) a a := by
  rcases hf with ⟨h1, h2, h3⟩ | ⟨lo, hi, h1, h2, h3, h4, h5, h6, h7, h8, h9⟩
  · exact .inr ⟨a, a, rfl, rfl, hk, Nat.le_refl _, by omega, hy, hy, h3, fun j _ _ => by omega⟩
  · omega
theorem Found.more {p s k al a : Nat} {l h : Int} (hf : Found p s k al a l h) (hy : Pl p s k al a) (hl : ¬ l < 0) : Found p s k al (a + 1) l a := by
  rcases hf with ⟨h1, h2, h3⟩ | ⟨lo, hi, h1, h2, h3, h4, h5, h6, h7, h8, h9⟩
  · omega
  · exact .inr ⟨lo, a, h1, rfl, h3, by omega, by omega, h6, hy, h8, fun j _ _ => by omega⟩
theorem Found.size {p s k al a : Nat} {l h : Int} (hf : Found p s k al a l h) : -1 ≤ l ∧ l ≤ a ∧ -1 ≤ h ∧ h ≤ a := by
  rcases hf with ⟨h1, h2, h3⟩ | ⟨lo, hi, h1, h2, h3, h4, h5, h6, h7, h8, h9⟩ <;> omega
theorem Found.end {p s k al a : Nat} {l h : Int} (hf : Found p s k al a l h) (ha : a = p - (s - k) + 1) (hk : k ≤ s) (hs : s ≤ p) (hal : al ≤ 999) : ∃ lo hi : Nat, l = lo ∧ h = hi ∧ Bnd p s k al lo hi := by
  rcases hf with ⟨h1, h2, h3⟩ | ⟨lo, hi, h1, h2, h3, h4, h5, h6, h7, h8, h9⟩
  · obtain ⟨m0, i1, i2, i3⟩ := some_pl p s k al hk hs hal
    exact absurd i3 (h3 m0 i1 (by omega))
  · exact ⟨lo, hi, h1, h2, h3, h4, by omega, h6, h7, h8, fun j hj hj2 => h9 j hj (by omega)⟩

set_option maxHeartbeats 2000000 in
set_option maxRecDepth 100000 in
theorem rbounds_ok (p s k al : Nat) (w : World) (h1 : p ≤ 60) (h2 : s ≤ p) (h4 : k ≤ s) (h0 : 1 ≤ al) (h5 : al ≤ 999) :
    Calls Try.prog 10 #[.int .i64 p, .int .i64 s, .int .i64 k, .int .i64 al] w fun e w' => ∃ lo hi : Nat, e = .returned (.tuple #[.int .i64 lo, .int .i64 hi, .int .i64 0]) ∧ Bnd p s k al lo hi ∧ Below w.heap.size w w' := by
  obtain ⟨top, htop⟩ : ∃ top : Nat, p - (s - k) = top := ⟨_, rfl⟩
  have ht : (p : Int) - ((s : Int) - k) = top := by omega
  have htp : top ≤ p := by omega
  have htk : k ≤ top := by omega
  have HT := Lib.hid htop; clear htop
  have d1 : decide ((al : Int) < 1) = false := decide_eq_false (by omega)
  have d2 : decide (1000 ≤ (al : Int)) = false := decide_eq_false (by omega)
  have d3 : decide ((k : Int) < 0) = false := decide_eq_false (by omega)
  have d4 : decide ((s : Int) < (k : Int)) = false := decide_eq_false (by omega)
  have d5 : decide (s < k) = false := decide_eq_false (by omega)
  go_enter Try.func10, Try.ntmps10
  go_wp2_with fail
  refine (bad_no p s 0 _ h1 h2 (by omega)).mono ?_
  rintro e w1 ⟨rfl, rfl⟩
  go_wp2_with fail
  go_loopw [11, 12, 13] (fun l h i wr => ∃ (a : Nat) (lo hi : Int), k ≤ a ∧ a ≤ top + 1 ∧ i = .int .i64 a ∧ l = .int .i64 lo ∧ h = .int .i64 hi ∧ Hid (Found p s k al a lo hi) ∧ Below w.heap.size w wr) (fun _ _ i _ => top + 1 - (intOf i).toNat)
  case atStart => exact ⟨k, -1, -1, Nat.le_refl _, by omega, rfl, rfl, rfl, Lib.hid (.inl ⟨rfl, rfl, fun j _ _ => by omega⟩), Below.refl _ _⟩
  case round =>
    obtain ⟨a, lo, hi, ha1, ha2, rfl, rfl, rfl, hF, hbel⟩ := hrel
    by_cases hat : (a : Int) ≤ top
    · cases hpa : PlB p s k al a with
      | true =>
        have hplo : Pl p s k al a := of_decide_eq_true hpa
        have HPA := Lib.hid hpa; clear hpa
        have HPL := Lib.hid hplo; clear hplo
        have hsz := hF.out.size
        rcases (show lo < 0 ∨ 0 ≤ lo by omega) with hl | hl
        all_goals
          go_wp2_with (go_at_call 25; refine (rplaus_any p s k al a _ h1 h2 (by omega) h4 h5).mono ?_; rw [HPA.out]; rintro e w1 ⟨rfl, hb1⟩)
          have hbel1 := hbel.trans (hb1.mono hbel.size)
          clear hbel hb1
          go_wp2
          go_roundw
          case measure => simp [intOf]; omega
        · exact ⟨a + 1, a, a, by omega, by omega, by go_num, rfl, rfl, Lib.hid (hF.out.first HPL.out ha1 hl), hbel1⟩
        · exact ⟨a + 1, lo, a, by omega, by omega, by go_num, rfl, rfl, Lib.hid (hF.out.more HPL.out (by omega)), hbel1⟩
      | false =>
        have hplo : ¬ Pl p s k al a := of_decide_eq_false hpa
        have HPA := Lib.hid hpa; clear hpa
        have HPL := Lib.hid hplo; clear hplo
        go_wp2_with (go_at_call 25; refine (rplaus_any p s k al a _ h1 h2 (by omega) h4 h5).mono ?_; rw [HPA.out]; rintro e w1 ⟨rfl, hb1⟩)
        have hbel1 := hbel.trans (hb1.mono hbel.size)
        clear hbel hb1
        go_wp2
        go_roundw
        case rel => exact ⟨a + 1, lo, hi, by omega, by omega, by go_num, rfl, rfl, Lib.hid (hF.out.no HPL.out), hbel1⟩
        case measure => simp [intOf]; omega
    · obtain ⟨lo, hi, rfl, rfl, hB⟩ := hF.out.end (by rw [HT.out]; omega) h4 h2 h5
      have HB := Lib.hid hB; clear hB
      go_wp2
      go_ret3
      exact ⟨lo, hi, rfl, HB.out, hbel⟩

set_option maxHeartbeats 1000000 in
theorem rbounds_all (p s k al : Int) (w : World) : Calls Try.prog 10 #[.int .i64 p, .int .i64 s, .int .i64 k, .int .i64 al] w (Thr w (bL p s k al) (bH p s k al) (bE p s k al)) := by
  by_cases hok : okB p s k al
  · have h := hok
    unfold okB at h
    obtain ⟨p, rfl⟩ := Int.eq_ofNat_of_zero_le (show 0 ≤ p by omega)
    obtain ⟨s, rfl⟩ := Int.eq_ofNat_of_zero_le (show 0 ≤ s by omega)
    obtain ⟨k, rfl⟩ := Int.eq_ofNat_of_zero_le (show 0 ≤ k by omega)
    obtain ⟨al, rfl⟩ := Int.eq_ofNat_of_zero_le (show 0 ≤ al by omega)
    refine (rbounds_ok p s k al w (by omega) (by omega) (by omega) (by omega) (by omega)).mono ?_
    rintro e w1 ⟨lo, hi, rfl, hB, hb⟩
    exact thr_ok hok hB hb
  · have HN := Lib.hid (fun w' (hb : Below w.heap.size w w') => thr_no hok hb)
    by_cases h1 : okP p s 0
    · have h := h1
      unfold okP at h
      unfold okB at hok
      obtain ⟨p, rfl⟩ := Int.eq_ofNat_of_zero_le (show 0 ≤ p by omega)
      obtain ⟨s, rfl⟩ := Int.eq_ofNat_of_zero_le (show 0 ≤ s by omega)
      have hp : p ≤ 60 := by omega
      have hs : s ≤ p := by omega
      rcases (show al < 1 ∨ (¬ al < 1 ∧ 1000 ≤ al) ∨ (¬ al < 1 ∧ ¬ 1000 ≤ al ∧ k < 0) ∨ (¬ al < 1 ∧ ¬ 1000 ≤ al ∧ ¬ k < 0 ∧ (s : Int) < k) by omega) with g | ⟨g, g2⟩ | ⟨g, g2, g3⟩ | ⟨g, g2, g3, g4⟩
      all_goals
        clear hok h h1
        go_enter Try.func10, Try.ntmps10
        go_wp2_with fail
        refine (bad_no p s 0 _ hp hs (by omega)).mono ?_
        rintro e w1 ⟨rfl, rfl⟩
        go_wp2
        go_ret3
        exact HN.out _ (Below.refl _ _)
    · clear hok
      go_enter Try.func10, Try.ntmps10
      go_wp2_with fail
      refine (bad_yes p s 0 _ h1).mono ?_
      rintro e w1 ⟨rfl, rfl⟩
      clear h1
      go_wp2
      go_ret3
      exact HN.out _ (Below.refl _ _)
end Go.Proofs.Ythgfajilpnjihaa
