/-
  Layer 13: a dead switch, and all links down. About lists only.
-/
import Derived.Test.YtlmgbfbcaokedaaFb13z
namespace Go.Proofs.Ytlmgbfbcaokedaa
open Go.RowKit
def FK.kill (f : FK) (k : Nat) : FK := ⟨f.sw, f.ls, f.dn, f.dd.set k true⟩
def FK.cutAll (f : FK) : FK := ⟨f.sw, f.ls, List.replicate f.ls.length true, f.dd⟩
theorem kill_ok {f : FK} (h : f.ok = true) (k : Nat) : (f.kill k).ok = true := by
  unfold FK.ok FK.head FK.kill at *
  simp only [Bool.and_eq_true, decide_eq_true_eq, beq_iff_eq, List.length_set] at *
  exact h
theorem cutAll_ok {f : FK} (h : f.ok = true) : f.cutAll.ok = true := by
  unfold FK.ok FK.head FK.cutAll at *
  simp only [Bool.and_eq_true, decide_eq_true_eq, beq_iff_eq, List.length_replicate] at *
  exact ⟨⟨h.1.1, trivial⟩, h.2⟩
theorem kill_al {f : FK} {k : Nat} (hk : k < f.dd.length) : (f.kill k).al k = false := by
  unfold FK.al FK.kill
  dsimp only
  rw [Int.toNat_natCast, getD_setB, if_pos ⟨rfl, hk⟩]
  simp
theorem fstN_spec (h : Nat → Int) : ∀ n, (fstN h n = -1 ∧ ∀ t, t < n → h t < 0) ∨ ∃ t : Nat, fstN h n = (t : Int) ∧ t < n ∧ 0 ≤ h t ∧ ∀ u, u < t → h u < 0
  | 0 => .inl ⟨rfl, fun t ht => by omega⟩
  | n + 1 => by
    have e : fstN h (n + 1) = bif decide (0 ≤ h n) && decide (fstN h n < 0) then (n : Int) else fstN h n := rfl
    rcases fstN_spec h n with ⟨h1, h2⟩ | ⟨t, h1, h2, h3, h4⟩
    · by_cases hn : 0 ≤ h n
      · refine .inr ⟨n, ?_, by omega, hn, h2⟩
        rw [e, h1, decide_eq_true hn]; rfl
      · refine .inl ⟨?_, fun t ht => ?_⟩
        · rw [e, decide_eq_false hn]; exact h1
        · by_cases htn : t = n
          · subst htn; omega
          · exact h2 t (by omega)
    · refine .inr ⟨t, ?_, by omega, h3, h4⟩
      rw [e, h1]
      have : decide ((t : Int) < 0) = false := by simp
      rw [this, Bool.and_false]; rfl
/-- The part of a switch. -/
theorem part_val {f : FK} (h : f.ok = true) {s : Nat} (hs : s < f.sw.toNat) : ((ptN (dsts f) f.sw.toNat f.sw.toNat).getD s 0 = -1 ∧ ∀ t : Nat, t < f.sw.toNat → (dsts f t).getD s 0 < 0) ∨ ∃ t : Nat, (ptN (dsts f) f.sw.toNat f.sw.toNat).getD s 0 = (t : Int) ∧ t < f.sw.toNat ∧ 0 ≤ (dsts f t).getD s 0 ∧ ∀ u : Nat, u < t → (dsts f u).getD s 0 < 0 := by
  rw [ptN_at _ _ _ hs _ (Nat.le_refl _)]
  exact fstN_spec _ _
theorem kill_parts {f : FK} (h : f.ok = true) {k s : Nat} (hk : k < f.sw.toNat) (hs : s < f.sw.toNat) : (ptN (dsts (f.kill k)) f.sw.toNat f.sw.toNat).getD s 0 ≠ (k : Int) ∧ (s = k → (ptN (dsts (f.kill k)) f.sw.toNat f.sw.toNat).getD s 0 = -1) := by
  obtain ⟨h1, h8, -, -, hdd, -⟩ := FK.ok_facts h
  have hg := kill_ok h k
  have ha := kill_al (f := f) (k := k) (by omega)
  have hp := part_val hg (s := s) hs
  rw [show (f.kill k).sw = f.sw from rfl] at hp
  constructor
  · rcases hp with ⟨q1, q2⟩ | ⟨t, q1, q2, q3, q4⟩
    · rw [q1]; omega
    · rw [q1]
      intro q
      have : t = k := by omega
      subst this
      have : (dsts (f.kill t) t).getD s 0 = -1 := distZ_neg ha s (by omega)
      omega
  · rintro rfl
    rcases hp with ⟨q1, q2⟩ | ⟨t, q1, q2, q3, q4⟩
    · exact q1
    · have := dist_dead hg (t := t) (v := s) (by omega) ha
      omega
theorem cutAll_wk (f : FK) {i : Nat} (hi : i < f.ls.length) : f.cutAll.wk i = false := by
  unfold FK.wk FK.cutAll
  dsimp only
  have : (List.replicate f.ls.length true).getD i false = true := by
    rw [List.getD_eq_getElem?_getD, List.getElem?_replicate, if_pos hi]; rfl
  rw [this]; rfl
theorem cutAll_wls (f : FK) : ∀ n, n ≤ f.ls.length → wkL f.cutAll n = []
  | 0, _ => rfl
  | n + 1, h => by rw [wkL_succ, cutAll_wk f (by omega), cond_false]; exact cutAll_wls f n (by omega)
theorem wlk_nil {f : FK} : ∀ {j x y : Nat}, wlk f [] j x y → x = y
  | 0, _, _, h => h
  | j + 1, _, _, ⟨z, _, i, hi, _⟩ => by cases hi
theorem cutAll_parts {f : FK} (h : f.ok = true) {s : Nat} (hs : s < f.sw.toNat) (hd : f.dd.getD s false = false) : (ptN (dsts f.cutAll) f.sw.toNat f.sw.toNat).getD s 0 = (s : Int) := by
  obtain ⟨h1, h8, -, -, hdd, -⟩ := FK.ok_facts h
  have hg := cutAll_ok h
  have ha : f.cutAll.al s = true := (al_iff hg).2 ⟨hs, hd⟩
  have hw : wls f.cutAll = [] := cutAll_wls f f.ls.length (Nat.le_refl _)
  have hself := dist_self hg (t := s) (by omega)
  rw [if_pos ha] at hself
  have hp := part_val hg (s := s) hs
  rw [show f.cutAll.sw = f.sw from rfl] at hp
  rcases hp with ⟨q1, q2⟩ | ⟨t, q1, q2, q3, q4⟩
  · have := q2 s hs
    omega
  · rw [q1]
    rcases dist_val hg (s := t) (show s < 8 by omega) with ⟨b1, _⟩ | ⟨l, b1, b2, b3, b4, b5⟩
    · omega
    · rw [hw] at b4
      rw [wlk_nil b4]
theorem cutAll_cuts (f : FK) : cutN f.cutAll (wkL f.cutAll f.cutAll.ls.length) (wkL f.cutAll f.cutAll.ls.length).length = [] := by
  have hw : wkL f.cutAll f.cutAll.ls.length = [] := cutAll_wls f f.ls.length (Nat.le_refl _)
  rw [hw]; rfl
end Go.Proofs.Ytlmgbfbcaokedaa
