/-
  Layer 13: what one more failure does. About lists only.
-/
import Derived.Test.YtlmgbfbcaokedaaFb13fb
import Derived.Test.YtlmgbfbcaokedaaFb13aa
namespace Go.Proofs.Ytlmgbfbcaokedaa
open Go.RowKit
structure SubF (g f : FK) : Prop where
  sw : g.sw = f.sw
  ls : g.ls = f.ls
  wk : ∀ i, g.wk i = true → f.wk i = true
  al : ∀ s, g.al s = true → f.al s = true
theorem sub_fail {f : FK} {i : Nat} (hi : i < f.dn.length) : SubF (f.fail i) f := ⟨rfl, rfl, fun j h => by rw [fail_wk f hi] at h; simp only [Bool.and_eq_true] at h; exact h.1, fun s h => h⟩
theorem getD_setT (l : List Bool) (k j : Nat) (h : (l.set k true).getD j false = false) : l.getD j false = false := by
  rw [getD_setB] at h
  split at h
  · cases h
  · exact h
theorem sub_kill (f : FK) (k : Nat) : SubF (f.kill k) f := by
  refine ⟨rfl, rfl, fun j h => ?_, fun s h => ?_⟩
  · unfold FK.wk FK.kill FK.la FK.lb at h
    unfold FK.wk FK.la FK.lb
    simp only [Bool.and_eq_true, Bool.not_eq_true'] at h ⊢
    exact ⟨⟨h.1.1, getD_setT _ _ _ h.1.2⟩, getD_setT _ _ _ h.2⟩
  · unfold FK.al FK.kill at h
    unfold FK.al
    simp only [Bool.and_eq_true, Bool.not_eq_true'] at h ⊢
    exact ⟨h.1, getD_setT _ _ _ h.2⟩
theorem SubF.la {g f : FK} (h : SubF g f) : g.la = f.la ∧ g.lb = f.lb := by
  unfold FK.la FK.lb
  rw [h.ls]
  exact ⟨rfl, rfl⟩
theorem SubF.adj {g f : FK} (h : SubF g f) {x y : Nat} (ha : adj g (wls g) x y) : adj f (wls f) x y := by
  obtain ⟨i, hi, hxy⟩ := ha
  obtain ⟨j, rfl, hj, hw⟩ := mem_wkL.1 hi
  rw [h.la.1, h.la.2] at hxy
  exact ⟨(j : Int), mem_wkL.2 ⟨j, rfl, by rw [← h.ls]; exact hj, h.wk j hw⟩, hxy⟩
theorem SubF.dist {g f : FK} (h : SubF g f) (hf : f.ok = true) (hg : g.ok = true) {t v : Nat} (hv : v < 8) (h0 : 0 ≤ (dsts g t).getD v 0) : 0 ≤ (dsts f t).getD v 0 ∧ (dsts f t).getD v 0 ≤ (dsts g t).getD v 0 := by
  rcases dist_val hg (s := t) hv with ⟨a1, a2⟩ | ⟨k, a1, a2, a3, a4, a5⟩
  · omega
  · have hw := wlk_mono (fun x y => h.adj) a4
    rcases dist_val hf (s := t) hv with ⟨b1, b2⟩ | ⟨l, b1, b2, b3, b4, b5⟩
    · exfalso
      rcases b2 with b2 | b2
      · have := h.al t a3
        rw [b2] at this; cases this
      · exact b2 k hw
    · have : ¬ k < l := fun q => b5 k q hw
      omega
theorem cutV_nn {f : FK} (h : f.ok = true) (S : Nat → Bool) : 0 ≤ cutV f S := sumN_nonneg _ fun i hi => by
  have := link_cap h hi
  show 0 ≤ bif f.wk i && (S (f.la i) != S (f.lb i)) then (f.ls.getD i (0, 0, 0)).2.2 else 0
  cases f.wk i && (S (f.la i) != S (f.lb i))
  · exact Int.le_refl 0
  · show 0 ≤ (f.ls.getD i (0, 0, 0)).2.2
    omega
theorem SubF.cut {g f : FK} (h : SubF g f) (hf : f.ok = true) (S : Nat → Bool) : cutV g S ≤ cutV f S := by
  unfold cutV
  rw [h.ls, h.la.1, h.la.2]
  refine sumN_le _ fun i hi => ?_
  have := link_cap hf hi
  show (bif g.wk i && (S (f.la i) != S (f.lb i)) then (f.ls.getD i (0, 0, 0)).2.2 else 0) ≤ bif f.wk i && (S (f.la i) != S (f.lb i)) then (f.ls.getD i (0, 0, 0)).2.2 else 0
  cases hg : g.wk i with
  | true => rw [h.wk i hg]; exact Int.le_refl _
  | false =>
    rw [Bool.false_and, cond_false]
    cases f.wk i && (S (f.la i) != S (f.lb i))
    · exact Int.le_refl 0
    · show 0 ≤ (f.ls.getD i (0, 0, 0)).2.2
      omega
/-- What the program answers to any two switches. -/
theorem Flow_any {f : FK} (h : f.ok = true) (a b : Nat) : ∃ r : Int, Spec Try.prog 27 [.agg f.A, .val (.int .i64 (a : Int)), .val (.int .i64 (b : Int))] [] (.val (.int .i64 r)) [] ∧ 0 ≤ r ∧ ((a = b ∨ f.al a = false ∨ f.al b = false) ∧ r = 0 ∨ (a ≠ b ∧ f.al a = true ∧ f.al b = true) ∧ (∀ S : Nat → Bool, S a = true → S b = false → r ≤ cutV f S) ∧ ∃ S : Nat → Bool, S a = true ∧ S b = false ∧ r = cutV f S) := by
  by_cases hab : a = b
  · exact ⟨0, Flow0_spec h a b (.inl (by subst hab; simp)), Int.le_refl 0, .inl ⟨.inl hab, rfl⟩⟩
  · cases ha : f.al a with
    | false => exact ⟨0, Flow0_spec h a b (.inr (.inl ha)), Int.le_refl 0, .inl ⟨.inr (.inl rfl), rfl⟩⟩
    | true =>
      cases hb : f.al b with
      | false => exact ⟨0, Flow0_spec h a b (.inr (.inr hb)), Int.le_refl 0, .inl ⟨.inr (.inr rfl), rfl⟩⟩
      | true =>
        obtain ⟨r, q1, q2, S, q3, q4, q5⟩ := Flow_cut h a b hab ha hb
        exact ⟨r, q1, by rw [q5]; exact cutV_nn h S, .inr ⟨⟨hab, rfl, rfl⟩, q2, S, q3, q4, q5⟩⟩
theorem SubF.flow {g f : FK} (h : SubF g f) (hf : f.ok = true) (hg : g.ok = true) (a b : Nat) : ∃ x y : Int, Spec Try.prog 27 [.agg g.A, .val (.int .i64 (a : Int)), .val (.int .i64 (b : Int))] [] (.val (.int .i64 x)) [] ∧ Spec Try.prog 27 [.agg f.A, .val (.int .i64 (a : Int)), .val (.int .i64 (b : Int))] [] (.val (.int .i64 y)) [] ∧ x ≤ y := by
  obtain ⟨x, p1, p2, p3⟩ := Flow_any hg a b
  obtain ⟨y, q1, q2, q3⟩ := Flow_any hf a b
  refine ⟨x, y, p1, q1, ?_⟩
  rcases p3 with ⟨_, p4⟩ | ⟨⟨p4, p5, p6⟩, p7, _⟩
  · omega
  · rcases q3 with ⟨q4, _⟩ | ⟨_, _, S, q5, q6, q7⟩
    · exfalso
      have h1 := h.al a p5
      have h2 := h.al b p6
      rcases q4 with q4 | q4 | q4
      · exact p4 q4
      · rw [h1] at q4; cases q4
      · rw [h2] at q4; cases q4
    · have h1 := p7 S q5 q6
      have h2 := h.cut hf S
      omega
end Go.Proofs.Ytlmgbfbcaokedaa
