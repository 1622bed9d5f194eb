/-
  Layer 13: ways over a third switch, and what the links at one end carry. About lists only.
-/
import Derived.Test.YtlmgbfbcaokedaaFb13fc
namespace Go.Proofs.Ytlmgbfbcaokedaa
open Go.RowKit
theorem dist_tri {f : FK} (h : f.ok = true) {t m s : Nat} (hm : m < 8) (hs : s < 8) (h1 : 0 ≤ (dsts f m).getD s 0) (h2 : 0 ≤ (dsts f t).getD m 0) : 0 ≤ (dsts f t).getD s 0 ∧ (dsts f t).getD s 0 ≤ (dsts f m).getD s 0 + (dsts f t).getD m 0 := by
  rcases dist_val h (s := m) hs with ⟨a1, _⟩ | ⟨k, a1, a2, a3, a4, a5⟩
  · omega
  rcases dist_val h (s := t) hm with ⟨b1, _⟩ | ⟨l, b1, b2, b3, b4, b5⟩
  · omega
  have hw := wlk_trans b4 a4
  rcases dist_val h (s := t) hs with ⟨c1, c2⟩ | ⟨j, c1, c2, c3, c4, c5⟩
  · exfalso
    rcases c2 with c2 | c2
    · rw [b3] at c2; cases c2
    · exact c2 _ hw
  · have : ¬ l + k < j := fun q => c5 _ q hw
    omega
def lcap (f : FK) (i : Nat) : Int := (f.ls.getD i (0, 0, 0)).2.2
def atB (f : FK) (s i : Nat) : Bool := f.wk i && ((f.la i == s) || (f.lb i == s))
def moB (f : FK) (s t i : Nat) : Bool := f.wk i && ((f.la i == s) && (f.lb i == t) || (f.la i == t) && (f.lb i == s))
def atV (f : FK) (s : Nat) : Nat → Int := sumN fun i => bif atB f s i then lcap f i else 0
def moV (f : FK) (s t : Nat) : Nat → Int := sumN fun i => bif moB f s t i then lcap f i else 0
theorem bif_range {f : FK} (h : f.ok = true) (B : Nat → Bool) : ∀ i, i ≤ f.ls.length → 0 ≤ sumN (fun i => bif B i then lcap f i else 0) i ∧ sumN (fun i => bif B i then lcap f i else 0) i ≤ i * 1048576
  | 0, _ => by simp [sumN]
  | i + 1, hi => by
    have ih := bif_range h B i (by omega)
    have := link_cap h (i := i) (by omega)
    have e : sumN (fun i => bif B i then lcap f i else 0) (i + 1) = sumN (fun i => bif B i then lcap f i else 0) i + bif B i then lcap f i else 0 := rfl
    rw [e]
    have hb : 0 ≤ (bif B i then lcap f i else 0) ∧ (bif B i then lcap f i else 0) ≤ 1048576 := by
      cases B i
      · exact ⟨Int.le_refl 0, show (0 : Int) ≤ 1048576 by decide⟩
      · show 0 ≤ lcap f i ∧ lcap f i ≤ 1048576
        unfold lcap; omega
    omega
theorem through_flow {f : FK} (h : f.ok = true) (s t : Nat) (hs : s < f.sw.toNat) (ht : t < f.sw.toNat) : ∃ r : Int, Spec Try.prog 27 [.agg f.A, .val (.int .i64 (s : Int)), .val (.int .i64 (t : Int))] [] (.val (.int .i64 r)) [] ∧ r ≤ atV f s f.ls.length ∧ (s = t ∨ moV f s t f.ls.length ≤ r) := by
  obtain ⟨r, q1, q2, q3⟩ := Flow_any h s t
  refine ⟨r, q1, ?_⟩
  have hat := (bif_range h (atB f s) f.ls.length (Nat.le_refl _)).1
  rcases q3 with ⟨q4, q5⟩ | ⟨⟨q4, q5, q6⟩, q7, S, q8, q9, q10⟩
  · refine ⟨by rw [q5]; exact hat, ?_⟩
    by_cases hst : s = t
    · exact .inl hst
    · refine .inr ?_
      have : moV f s t f.ls.length = 0 := sumN_zero _ fun i hi => by
        show (bif moB f s t i then lcap f i else 0) = 0
        have hm : moB f s t i = false := by
          cases hm : moB f s t i with
          | false => rfl
          | true =>
            exfalso
            unfold moB at hm
            simp only [Bool.and_eq_true, Bool.or_eq_true, beq_iff_eq] at hm
            obtain ⟨hw, hm⟩ := hm
            obtain ⟨_, a1, a2⟩ := wk_adj h hi hw
            rcases q4 with q4 | q4 | q4
            · exact hst q4
            · rcases hm with ⟨m1, m2⟩ | ⟨m1, m2⟩
              · rw [m1, q4] at a1; cases a1
              · rw [m2, q4] at a2; cases a2
            · rcases hm with ⟨m1, m2⟩ | ⟨m1, m2⟩
              · rw [m2, q4] at a2; cases a2
              · rw [m1, q4] at a1; cases a1
        rw [hm]; rfl
      omega
  · constructor
    · have h1 := q7 (fun x => x == s) (by simp) (by simp; omega)
      have h2 : cutV f (fun x => x == s) ≤ atV f s f.ls.length := sumN_le _ fun i hi => by
        show (bif f.wk i && ((f.la i == s) != (f.lb i == s)) then lcap f i else 0) ≤ bif f.wk i && ((f.la i == s) || (f.lb i == s)) then lcap f i else 0
        have := link_cap h hi
        have hl : 0 ≤ lcap f i := by unfold lcap; omega
        cases f.wk i <;> cases (f.la i == s) <;> cases (f.lb i == s) <;> simp <;> exact hl
      omega
    · refine .inr ?_
      rw [q10]
      refine sumN_le _ fun i hi => ?_
      show (bif moB f s t i then lcap f i else 0) ≤ bif f.wk i && (S (f.la i) != S (f.lb i)) then lcap f i else 0
      have := link_cap h hi
      have hl : 0 ≤ lcap f i := by unfold lcap; omega
      cases hm : moB f s t i with
      | false =>
        show 0 ≤ bif f.wk i && (S (f.la i) != S (f.lb i)) then lcap f i else 0
        cases f.wk i && (S (f.la i) != S (f.lb i))
        · exact Int.le_refl 0
        · exact hl
      | true =>
        unfold moB at hm
        simp only [Bool.and_eq_true, Bool.or_eq_true, beq_iff_eq] at hm
        obtain ⟨hw, hm⟩ := hm
        have : (S (f.la i) != S (f.lb i)) = true := by
          rcases hm with ⟨m1, m2⟩ | ⟨m1, m2⟩
          · rw [m1, m2, q8, q9]; rfl
          · rw [m1, m2, q8, q9]; rfl
        rw [hw, this]; exact Int.le_refl _
end Go.Proofs.Ytlmgbfbcaokedaa
