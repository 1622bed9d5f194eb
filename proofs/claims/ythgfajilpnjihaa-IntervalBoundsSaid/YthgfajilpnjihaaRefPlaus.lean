/-
  Layer 39, the reference: what is above, what is plausible, the bounds.
-/
import Derived.Test.YthgfajilpnjihaaCoverMath
import Derived.Test.YthgfajilpnjihaaCountsAll
namespace Go.Proofs.Ythgfajilpnjihaa
open Go.RowKit

set_option maxHeartbeats 1000000 in
theorem above_any (n al all : Nat) (w : World) (h1 : n ≤ 1152921504606846976) (h2 : al ≤ 2000) (h3 : all ≤ 1152921504606846976) :
    Calls Try.prog 29 #[.int .i64 n, .int .i64 al, .int .i64 all] w fun e w' => e = .returned (.bool (Exc n al all)) ∧ w = w' := by
  have c1 : IntKind.u64.wrap (n : Int) = n := u64_in _ (by omega) (by omega)
  have c2 : IntKind.u64.wrap (al : Int) = al := u64_in _ (by omega) (by omega)
  have c3 : IntKind.u64.wrap (all : Int) = all := u64_in _ (by omega) (by omega)
  have hcmp := cmp128 (2000 * (n : Int)) ((al : Int) * all)
  have hfin : Exc n al all = decide ((al : Int) * all < 2000 * (n : Int)) := by
    unfold Exc
    rw [decide_eq_decide]
    constructor
    · intro h
      have := Int.ofNat_lt.2 h
      simpa using this
    · intro h
      have h' : ((al * all : Nat) : Int) < ((2000 * n : Nat) : Int) := by simpa using h
      exact Int.ofNat_lt.1 h'
  have HC := Lib.hid hcmp
  have HF := Lib.hid hfin
  clear hcmp hfin
  go_enter Try.func29, Try.ntmps29
  go_wp2_with fail
  refine (mul_any 2000 n _ (by omega) (by omega) (by omega) (by omega)).mono ?_
  rintro e w1 ⟨rfl, rfl⟩
  go_wp2_with fail
  refine (mul_any al all _ (by omega) (by omega) (by omega) (by omega)).mono ?_
  rintro e w1 ⟨rfl, rfl⟩
  generalize 2000 * (n : Int) = a at HC HF
  generalize (al : Int) * all = b at HC HF
  generalize a / 18446744073709551616 = ah at HC
  generalize b / 18446744073709551616 = bh at HC
  generalize a % 18446744073709551616 = al' at HC
  generalize b % 18446744073709551616 = bl at HC
  rcases (show bh < ah ∨ ah < bh ∨ ah = bh by omega) with h | h | h
  · have hab : b < a := HC.out.1 (.inl h)
    have HAB := Lib.hid hab; clear hab
    go_wp2
    go_ret
    refine ⟨?_, rfl⟩
    rw [HF.out, decide_eq_true HAB.out]
    exact congrArg (fun b => Ending.returned (.bool b)) (by first | rfl | (simp; omega))
  · have hab : ¬ b < a := fun hh => by
      rcases HC.out.2 hh with h' | ⟨h', _⟩ <;> omega
    have HAB := Lib.hid hab; clear hab
    have g1 : (ah == bh) = false := by rw [beq_eq_false_iff_ne]; omega
    have g2 : decide (bh < ah) = false := decide_eq_false (by omega)
    go_wp2
    go_ret
    refine ⟨?_, rfl⟩
    rw [HF.out, decide_eq_false (by have := HAB.out; omega)]
    exact congrArg (fun b => Ending.returned (.bool b)) (by first | rfl | (simp; omega))
  · subst h
    have hab : (b < a) ↔ bl < al' := by
      rw [← HC.out]
      constructor
      · rintro (h | ⟨_, h⟩)
        · omega
        · exact h
      · exact fun h => .inr ⟨rfl, h⟩
    have HAB := Lib.hid hab; clear hab
    go_wp2
    go_ret
    refine ⟨?_, rfl⟩
    have e : decide (b < a) = decide (bl < al') := decide_eq_decide.2 HAB.out
    rw [HF.out, e]
    exact congrArg (fun b => Ending.returned (.bool b)) (by first | rfl | (simp; omega))

set_option maxHeartbeats 1000000 in
theorem rplaus_any (p s k al m : Nat) (w : World) (h1 : p ≤ 60) (h2 : s ≤ p) (h3 : m ≤ p) (h4 : k ≤ s) (h5 : al ≤ 999) :
    Calls Try.prog 25 #[.int .i64 p, .int .i64 s, .int .i64 m, .int .i64 k, .int .i64 al] w fun e w' => e = .returned (.bool (PlB p s k al m)) ∧ Below w.heap.size w w' := by
  have hlow := low_le p s m k h3 (by omega)
  have hlow2 := low_le p s m (k + 1) h3 (by omega)
  have hC := C_small p s h1
  have hok : okP p s m := by unfold okP; omega
  have E0 := Lib.hid (show CI p (s : Int) = C p s by unfold CI; rw [if_neg (by omega)]; simp)
  have E1 := Lib.hid (show leV p s m k = ((C p s - low p s m k : Nat) : Int) by
    unfold leV; rw [if_pos hok]
    simp only [Int.toNat_natCast]
    rw [many_least p s m k h4 h3]; omega)
  have E2 := Lib.hid (show moV p s m k = (low p s m (k + 1) : Int) by
    unfold moV; rw [if_pos hok]
    simp only [Int.toNat_natCast]
    exact many_most p s m k h4)
  have hfin : PlB p s k al m = (Exc (C p s - low p s m k) al (C p s) && Exc (low p s m (k + 1)) al (C p s)) := by
    unfold PlB Exc
    by_cases x : al * C p s < 2000 * (C p s - low p s m k)
    · by_cases y : al * C p s < 2000 * low p s m (k + 1)
      · rw [decide_eq_true (show Pl p s k al m from ⟨x, y⟩), decide_eq_true x, decide_eq_true y]; rfl
      · rw [decide_eq_false (show ¬ Pl p s k al m from fun h => y h.2), decide_eq_true x, decide_eq_false y]; rfl
    · rw [decide_eq_false (show ¬ Pl p s k al m from fun h => x h.1), decide_eq_false x]; rfl
  have HF := Lib.hid hfin
  clear hfin hok
  have q1 : C p s - low p s m k ≤ 1152921504606846976 := by omega
  have q2 : low p s m (k + 1) ≤ 1152921504606846976 := by omega
  generalize C p s - low p s m k = n1 at E1 HF q1
  generalize low p s m (k + 1) = n2 at E2 HF q2 hlow2
  generalize C p s = cc at E0 HF hC hlow hlow2
  go_enter Try.func25, Try.ntmps25
  go_wp2_with fail
  refine (rchoose_any p s _ h1).mono ?_
  rintro e w1 ⟨rfl, hb1⟩
  rw [E0.out]
  go_wp2_with fail
  refine (rleast_all p s m k _).mono ?_
  rintro e w2 ⟨rfl, hb2⟩
  rw [E1.out]
  go_wp2_with fail
  refine (rmost_all p s m k _).mono ?_
  rintro e w3 ⟨rfl, hb3⟩
  rw [E2.out]
  have hbel := (hb1.trans (hb2.mono hb1.size)).trans (hb3.mono (by have := hb1.size; have := hb2.size; omega))
  clear hb1 hb2 hb3
  go_wp2_with fail
  refine (above_any n1 al cc _ q1 (by omega) hC).mono ?_
  rintro e w4 ⟨rfl, rfl⟩
  cases hx : Exc n1 al cc with
  | false =>
    have HX := Lib.hid hx; clear hx
    go_wp2
    go_ret
    refine ⟨?_, hbel⟩
    rw [HF.out, HX.out]; rfl
  | true =>
    have HX := Lib.hid hx; clear hx
    go_wp2_with fail
    refine (above_any n2 al cc _ q2 (by omega) hC).mono ?_
    rintro e w4 ⟨rfl, rfl⟩
    go_wp2
    go_ret
    refine ⟨?_, hbel⟩
    rw [HF.out, HX.out]; rfl
end Go.Proofs.Ythgfajilpnjihaa
