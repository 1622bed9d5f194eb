/-
  Layer 39: which numbers are plausible, and the least and the greatest of them.
-/
import Derived.Test.YthgfajilpnjihaaExceeds
namespace Go.Proofs.Ythgfajilpnjihaa
open Go.RowKit

def PlB (p s k al m : Nat) : Bool := decide (Pl p s k al m)

set_option maxHeartbeats 1000000 in
theorem plausible_any (g p s k al m : Nat) (w : World) (h1 : p ≤ 60) (h2 : s ≤ p) (h3 : m ≤ p) (h4 : k ≤ s) (h5 : al ≤ 999) (hP : Part g 61 0 w) :
    Calls Try.prog 28 #[.pointer (some ⟨g, 0, none⟩), .int .i64 p, .int .i64 s, .int .i64 m, .int .i64 k, .int .i64 al] w fun e w' => e = .returned (.bool (PlB p s k al m)) ∧ ∃ q, w' = w.drewN q := by
  have hc := tri_cell hP p s (by omega) (by omega)
  have hlow := low_le p s m k h3 (by omega)
  have hlow2 := low_le p s m (k + 1) h3 (by omega)
  have hC := C_small p s h1
  have E1 := Lib.hid (show many p s m k s = ((C p s - low p s m k : Nat) : Int) by rw [many_least p s m k h4 h3]; omega)
  have E2 := Lib.hid (many_most p s m k h4)
  have t7 : (p : Int) < 61 := by omega
  have t8 : (s : Int) < 61 := by omega
  have hfin : PlB p s k al m = (Exc (C p s - low p s m k) al (C p s) && Exc (low p s m (k + 1)) al (C p s)) := by
    unfold PlB Exc
    by_cases x : al * C p s < 2000 * (C p s - low p s m k)
    · by_cases y : al * C p s < 2000 * low p s m (k + 1)
      · rw [decide_eq_true (show Pl p s k al m from ⟨x, y⟩), decide_eq_true x, decide_eq_true y]; rfl
      · rw [decide_eq_false (show ¬ Pl p s k al m from fun h => y h.2), decide_eq_true x, decide_eq_false y]; rfl
    · rw [decide_eq_false (show ¬ Pl p s k al m from fun h => x h.1), decide_eq_false x]; rfl
  have HF := Lib.hid hfin
  clear hfin
  have q1 : C p s - low p s m k ≤ 1152921504606846976 := by omega
  have q2 : low p s m (k + 1) ≤ 1152921504606846976 := by omega
  generalize C p s - low p s m k = n1 at E1 HF q1
  generalize low p s m (k + 1) = n2 at E2 HF q2 hlow2
  generalize C p s = cc at hc HF hC hlow hlow2
  go_enter Try.func28, Try.ntmps28
  go_wp2_with fail
  refine (count_any g p s m _ _ _ h1 h2 h3 hP).mono ?_
  rintro e w1 ⟨rfl, qa, rfl⟩
  rw [E1.out]
  go_wp2_with fail
  refine (exceeds_any n1 al cc _ q1 (by omega) hC).mono ?_
  rintro e w1 ⟨rfl, rfl⟩
  cases hx : Exc n1 al cc with
  | false =>
    have HX := Lib.hid hx; clear hx
    go_wp2
    go_ret
    refine ⟨?_, qa, rfl⟩
    rw [HF.out, HX.out]; rfl
  | true =>
    have HX := Lib.hid hx; clear hx
    go_wp2_with fail
    refine (count_any g p s m _ _ (w.drewN qa) h1 h2 h3 hP).mono ?_
    rintro e w1 ⟨rfl, qb, rfl⟩
    rw [E2.out]
    go_wp2_with fail
    refine (exceeds_any n2 al cc _ q2 (by omega) hC).mono ?_
    rintro e w1 ⟨rfl, rfl⟩
    go_wp2
    go_ret
    refine ⟨?_, _, rfl⟩
    rw [HF.out, HX.out]; rfl

/-- What the bounds are. -/
def Bnd (p s k al lo hi : Nat) : Prop := k ≤ lo ∧ lo ≤ hi ∧ hi ≤ p - (s - k) ∧ Pl p s k al lo ∧ Pl p s k al hi ∧ (∀ j, k ≤ j → j < lo → ¬ Pl p s k al j) ∧ (∀ j, hi < j → j ≤ p - (s - k) → ¬ Pl p s k al j)

set_option maxHeartbeats 2000000 in
theorem inner_any (g p s k al : Nat) (w : World) (h1 : p ≤ 60) (h2 : s ≤ p) (h4 : k ≤ s) (h5 : al ≤ 999) (hP : Part g 61 0 w) :
    Calls Try.prog 22 #[.pointer (some ⟨g, 0, none⟩), .int .i64 p, .int .i64 s, .int .i64 k, .int .i64 al] w fun e w' => ∃ lo hi : Nat, e = .returned (.tuple #[.int .i64 lo, .int .i64 hi]) ∧ Bnd p s k al lo hi ∧ ∃ q, w' = w.drewN q := by
  obtain ⟨m0, i1, i2, i3⟩ := some_pl p s k al h4 h2 h5
  obtain ⟨top, htop⟩ : ∃ top : Nat, p - (s - k) = top := ⟨_, rfl⟩
  rw [htop] at i2
  have ht : (p : Int) - ((s : Int) - k) = top := by omega
  have htp : top ≤ p := by omega
  have I3 := Lib.hid i3; clear i3
  have HT := Lib.hid htop; clear htop
  go_enter Try.func22, Try.ntmps22
  go_wp2_with fail
  clear ht
  go_loopw [12] (fun i wr => ∃ a q : Nat, k ≤ a ∧ a ≤ m0 ∧ i = .int .i64 a ∧ Hid (∀ j, k ≤ j → j < a → ¬ Pl p s k al j) ∧ wr = w.drewN q) (fun i _ => m0 - (intOf i).toNat)
  case atStart => exact ⟨k, 0, Nat.le_refl _, i1, rfl, Lib.hid (fun j _ _ => by omega), rfl⟩
  case round =>
    obtain ⟨a, q, ha1, ha2, rfl, hno, rfl⟩ := hrel
    have hPq : Part g 61 0 (w.drewN q) := hP
    cases hpa : PlB p s k al a with
    | true =>
      have hplo : Pl p s k al a := of_decide_eq_true hpa
      have HPA := Lib.hid hpa; clear hpa
      have HPL := Lib.hid hplo; clear hplo
      have hat : a ≤ top := by omega
      by_cases hlt : a < top
      all_goals
        go_wp2_with (go_at_call 28; refine (plausible_any g p s k al a _ h1 h2 (by omega) h4 h5 hPq).mono ?_; rw [HPA.out]; rintro e w1 ⟨rfl, qq, rfl⟩)
        go_loopw [13] (fun i wr => ∃ b q : Nat, a ≤ b ∧ b ≤ top ∧ i = .int .i64 b ∧ Hid (∀ j, b < j → j ≤ top → ¬ Pl p s k al j) ∧ wr = w.drewN q) (fun i _ => (intOf i).toNat - a)
        case atStart => exact ⟨top, _, hat, Nat.le_refl _, rfl, Lib.hid (fun j _ _ => by omega), rfl⟩
        case round =>
          obtain ⟨b, q2, hb1, hb2, rfl, hno2, rfl⟩ := hrel
          have hPq2 : Part g 61 0 (w.drewN q2) := hP
          by_cases hab : a < b
          · cases hpb : PlB p s k al b with
            | true =>
              have hplb : Pl p s k al b := of_decide_eq_true hpb
              have HPB := Lib.hid hpb; clear hpb
              have HPLB := Lib.hid hplb; clear hplb
              go_wp2_with (go_at_call 28; refine (plausible_any g p s k al b _ h1 h2 (by omega) h4 h5 hPq2).mono ?_; rw [HPB.out]; rintro e w1 ⟨rfl, qq3, rfl⟩)
              go_ret2
              refine ⟨a, b, rfl, ?_, _, rfl⟩
              exact ⟨ha1, hb1, by rw [HT.out]; exact hb2, HPL.out, HPLB.out, hno.out, by rw [HT.out]; exact hno2.out⟩
            | false =>
              have hplb : ¬ Pl p s k al b := of_decide_eq_false hpb
              have HPB := Lib.hid hpb; clear hpb
              have HPLB := Lib.hid hplb; clear hplb
              go_wp2_with (go_at_call 28; refine (plausible_any g p s k al b _ h1 h2 (by omega) h4 h5 hPq2).mono ?_; rw [HPB.out]; rintro e w1 ⟨rfl, qq3, rfl⟩)
              go_roundw
              case rel => exact ⟨b - 1, _, by omega, by omega, congrArg (Value.int .i64) (by omega), Lib.hid (fun j h6 h7 => by
                rcases Nat.lt_or_ge b j with h8 | h8
                · exact hno2.out j h8 h7
                · obtain rfl : j = b := by omega
                  exact HPLB.out), rfl⟩
              case measure => simp [intOf]; omega
          · obtain rfl : b = a := by omega
            go_wp2
            go_ret2
            refine ⟨b, b, rfl, ?_, _, rfl⟩
            exact ⟨ha1, Nat.le_refl _, by rw [HT.out]; exact hb2, HPL.out, HPL.out, hno.out, by rw [HT.out]; exact hno2.out⟩
    | false =>
      have hplo : ¬ Pl p s k al a := of_decide_eq_false hpa
      have hlt : a < m0 := by
        rcases Nat.lt_or_ge a m0 with h | h
        · exact h
        · obtain rfl : a = m0 := by omega
          exact absurd I3.out hplo
      have hlt2 : a < top := by omega
      have HPA := Lib.hid hpa; clear hpa
      have HPL := Lib.hid hplo; clear hplo
      go_wp2_with (go_at_call 28; refine (plausible_any g p s k al a _ h1 h2 (by omega) h4 h5 hPq).mono ?_; rw [HPA.out]; rintro e w1 ⟨rfl, qq, rfl⟩)
      go_roundw
      case rel => exact ⟨a + 1, _, by omega, by omega, by go_num, Lib.hid (fun j h6 h7 => by
        rcases Nat.lt_or_ge j a with h8 | h8
        · exact hno.out j h6 h8
        · obtain rfl : j = a := by omega
          exact HPL.out), rfl⟩
      case measure => simp [intOf]; omega

set_option maxHeartbeats 400000 in
theorem alpha_yes (al : Nat) (w : World) (h0 : 1 ≤ al) (h1 : al ≤ 999) : Calls Try.prog 20 #[.int .i64 al] w fun e w' => e = .returned (.bool true) ∧ w = w' := by
  go_enter Try.func20, Try.ntmps20
  go_wp2_with fail
  refine (within_yes _ _ _ _ (by omega) (by omega)).mono ?_
  rintro e w1 ⟨rfl, rfl⟩
  go_wp2
  go_ret
  exact ⟨rfl, rfl⟩

set_option maxHeartbeats 1000000 in
theorem bounds_ok (p s k al : Nat) (w : World) (h1 : p ≤ 60) (h2 : s ≤ p) (h4 : k ≤ s) (h0 : 1 ≤ al) (h5 : al ≤ 999) :
    Calls Try.prog 9 #[.int .i64 p, .int .i64 s, .int .i64 k, .int .i64 al] w fun e w' => ∃ lo hi : Nat, e = .returned (.tuple #[.int .i64 lo, .int .i64 hi, .int .i64 0]) ∧ Bnd p s k al lo hi ∧ Below w.heap.size w w' := by
  go_enter Try.func9, Try.ntmps9
  go_wp2_with fail
  refine (pool_yes _ _ _ h1 h2).mono ?_
  rintro e w1 ⟨rfl, rfl⟩
  go_wp2_with fail
  refine (alpha_yes _ _ h0 h5).mono ?_
  rintro e w1 ⟨rfl, rfl⟩
  go_wp2_with fail
  refine (within_yes _ _ _ _ (by omega) (by omega)).mono ?_
  rintro e w1 ⟨rfl, rfl⟩
  go_wp2_with fail
  refine (pascal_any _).mono ?_
  rintro e w1 ⟨rfl, hP, hb⟩
  go_wp2_with fail
  refine (inner_any _ p s k al _ h1 h2 h4 h5 hP).mono ?_
  rintro e w2 ⟨lo, hi, rfl, hB, q, rfl⟩
  have HB := Lib.hid hB; clear hB
  go_wp2
  go_ret3
  exact ⟨lo, hi, rfl, HB.out, below_drewN hb _⟩
end Go.Proofs.Ythgfajilpnjihaa
