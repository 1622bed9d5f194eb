/-
  The reference's Print: the longest run of zeros, and the text as its loop puts it together. No walk.
-/
import Derived.Test.YtboddbheljenhaaGreatDoorG16
namespace Go.Proofs.YtboddbheljenhaaGreatDoor
open Go.RowKit
def rls (xs : List Nat) : Nat → Int × Nat
  | 0 => (-1, 1)
  | i + 1 => if zr (xs.drop i) > (rls xs i).2 then ((i : Int), zr (xs.drop i)) else rls xs i
theorem rls_lrs (xs : List Nat) : ∀ i, (lrs xs i).2 < 2 ∧ rls xs i = (-1, 1) ∨ 2 ≤ (lrs xs i).2 ∧ rls xs i = (((lrs xs i).1 : Int), (lrs xs i).2)
  | 0 => .inl ⟨by simp [lrs], rfl⟩
  | i + 1 => by
    unfold lrs rls
    rcases rls_lrs xs i with ⟨h, e⟩ | ⟨h, e⟩
    · rw [e]
      dsimp only
      by_cases c : zr (xs.drop i) > 1
      · rw [if_pos (by omega), if_pos c]
        exact .inr ⟨by dsimp only; omega, rfl⟩
      · rw [if_neg c]
        by_cases c2 : zr (xs.drop i) > (lrs xs i).2
        · rw [if_pos c2]; exact .inl ⟨by dsimp only; omega, rfl⟩
        · rw [if_neg c2]; exact .inl ⟨h, rfl⟩
    · rw [e]
      dsimp only
      by_cases c : zr (xs.drop i) > (lrs xs i).2
      · rw [if_pos c, if_pos c]
        exact .inr ⟨by dsimp only; omega, rfl⟩
      · rw [if_neg c, if_neg c]
        exact .inr ⟨h, rfl⟩
theorem rls_bd (xs : List Nat) (i : Nat) : 1 ≤ (rls xs i).2 ∧ -1 ≤ (rls xs i).1 := by
  rcases rls_lrs xs i with ⟨h, e⟩ | ⟨h, e⟩ <;> rw [e] <;> dsimp only <;> omega
def addG (s : List UInt8) (x : Nat) : List UInt8 := if (s == []) = true ∨ Lib.hasSuffix s [58] = true then s ++ hexL x else s ++ [58] ++ hexL x
theorem suf_iff (s : List UInt8) : Lib.hasSuffix s [58] = true ↔ ∃ t, s = t ++ [58] := by
  unfold Lib.hasSuffix
  rw [List.isSuffixOf_iff_suffix]
  constructor
  · rintro ⟨t, h⟩; exact ⟨t, h.symm⟩
  · rintro ⟨t, h⟩; exact ⟨t, h.symm⟩
theorem suf_snoc (t : List UInt8) (x : UInt8) : Lib.hasSuffix (t ++ [x]) [58] = true ↔ x = 58 := by
  rw [suf_iff]
  constructor
  · rintro ⟨u, h⟩
    have := congrArg List.getLast? h
    simpa using this
  · rintro rfl; exact ⟨t, rfl⟩
theorem hexL_snoc (u : Nat) : ∃ t x, hexL u = t ++ [x] ∧ x ≠ 58 := by
  have nx : ∀ d, d < 16 → hexDig d ≠ 58 := by
    have key : ∀ d : Fin 16, hexDig d.val ≠ 58 := by decide +kernel
    exact fun d h => key ⟨d, h⟩
  by_cases h : u < 16
  · exact ⟨[], hexDig u, by rw [hexL_small h]; rfl, nx u h⟩
  · exact ⟨hexL (u / 16), hexDig (u % 16), hexL_big h, nx _ (by omega)⟩
theorem hexJ_end (p : List UInt8) : ∀ (xs : List Nat), xs ≠ [] → Lib.hasSuffix (p ++ hexJ xs) [58] = false
  | [], h => absurd rfl h
  | [x], _ => by
    obtain ⟨t, y, e, hy⟩ := hexL_snoc x
    have : hexJ [x] = hexL x := by rw [hexJ_joinC]; rfl
    rw [this, e, ← List.append_assoc]
    cases hb : Lib.hasSuffix (p ++ t ++ [y]) [58] with
    | false => rfl
    | true => exact absurd ((suf_snoc _ _).1 hb) hy
  | x :: y :: r, _ => by
    have ih := hexJ_end (p ++ hexL x ++ [58]) (y :: r) (by simp)
    have e : hexJ (x :: y :: r) = hexL x ++ [58] ++ hexJ (y :: r) := by
      rw [hexJ_joinC, hexJ_joinC, List.map_cons, joinC_cons 58 (hexL x) (by simp)]
      simp
    rw [e, ← List.append_assoc, ← List.append_assoc]
    exact ih
theorem hexJ_snoc : ∀ (xs : List Nat) (x : Nat), xs ≠ [] → hexJ (xs ++ [x]) = hexJ xs ++ [58] ++ hexL x
  | [], _, h => absurd rfl h
  | [a], x, _ => by
    rw [hexJ_joinC, hexJ_joinC]
    simp [joinC]
  | a :: b :: r, x, _ => by
    have ih := hexJ_snoc (b :: r) x (by simp)
    have e : ∀ ys : List Nat, ys ≠ [] → hexJ (a :: ys) = hexL a ++ [58] ++ hexJ ys := fun ys hy => by
      rw [hexJ_joinC, hexJ_joinC, List.map_cons, joinC_cons 58 (hexL a) (by simpa using hy)]
      simp
    rw [List.cons_append, e _ (by simp), ih, e _ (by simp)]
    simp
theorem addG_step (p : List UInt8) (hp : p = [] ∨ Lib.hasSuffix p [58] = true) (xs : List Nat) (x : Nat) : addG (p ++ hexJ xs) x = p ++ hexJ (xs ++ [x]) := by
  unfold addG
  by_cases h : xs = []
  · subst h
    have e0 : hexJ [] = [] := by rw [hexJ_joinC]; rfl
    have e1 : hexJ ([] ++ [x]) = hexL x := by rw [hexJ_joinC]; rfl
    rw [e0, e1, List.append_nil]
    rw [if_pos]
    rcases hp with rfl | hp
    · exact .inl rfl
    · exact .inr hp
  · have e1 := hexJ_end p xs h
    have e2 : (p ++ hexJ xs == []) = false := by
      cases xs with
      | nil => exact absurd rfl h
      | cons a r =>
        have := hexJ_ne a r
        cases hh : (p ++ hexJ (a :: r) == []) with
        | false => rfl
        | true =>
          have := List.append_eq_nil_iff.1 (beq_iff_eq.1 hh)
          exact absurd this.2 (hexJ_ne a r)
    rw [if_neg (by rw [e1, e2]; simp), hexJ_snoc xs x h]
    simp
def pst (xs : List Nat) (F Z i : Nat) : List UInt8 := if i ≤ F then hexJ (xs.take i) else hexJ (xs.take F) ++ [58, 58] ++ hexJ ((xs.drop (F + Z)).take (i - F - Z))
theorem pst_zero (xs : List Nat) (F Z : Nat) : pst xs F Z 0 = [] := by
  unfold pst
  rw [if_pos (Nat.zero_le _), List.take_zero, hexJ_joinC]
  rfl
theorem pst_run (xs : List Nat) (F Z : Nat) (hZ : 1 ≤ Z) : pst xs F Z F ++ [58, 58] = pst xs F Z (F + Z) := by
  unfold pst
  rw [if_pos (Nat.le_refl _), if_neg (by omega), show F + Z - F - Z = 0 by omega, List.take_zero]
  have e0 : hexJ [] = [] := by rw [hexJ_joinC]; rfl
  rw [e0, List.append_nil]
theorem take_snocN {xs : List Nat} {i x : Nat} (h : xs[i]? = some x) : xs.take (i + 1) = xs.take i ++ [x] := by
  rw [List.take_add_one, h]
  rfl
theorem pst_step (xs : List Nat) (F Z i x : Nat) (h : xs[i]? = some x) (hi : i < F ∨ F + Z ≤ i ∧ F < i) : addG (pst xs F Z i) x = pst xs F Z (i + 1) := by
  unfold pst
  by_cases c : i < F
  · rw [if_pos (by omega), if_pos (by omega), take_snocN h]
    have := addG_step [] (.inl rfl) (xs.take i) x
    simpa using this
  · rw [if_neg (by omega), if_neg (by omega)]
    have hx : (xs.drop (F + Z))[i - F - Z]? = some x := by rw [List.getElem?_drop, show F + Z + (i - F - Z) = i by omega, h]
    rw [show i + 1 - F - Z = i - F - Z + 1 by omega, take_snocN hx]
    refine addG_step _ (.inr ?_) _ _
    rw [show hexJ (xs.take F) ++ [58, 58] = hexJ (xs.take F) ++ [58] ++ [58] by simp]
    exact (suf_snoc _ _).2 rfl
theorem pst_p6 {xs : List Nat} (h8 : xs.length = 8) : (lrs xs 8).2 < 2 ∧ p6 xs = pst xs 8 1 8 ∨ 2 ≤ (lrs xs 8).2 ∧ (lrs xs 8).1 + (lrs xs 8).2 ≤ 8 ∧ p6 xs = pst xs (lrs xs 8).1 (lrs xs 8).2 8 := by
  have bd := lrs_bd xs h8 8 (Nat.le_refl _)
  unfold p6
  by_cases h : (lrs xs 8).2 < 2
  · refine .inl ⟨h, ?_⟩
    rw [if_pos h]
    unfold pst
    rw [if_pos (Nat.le_refl _), List.take_of_length_le (by omega)]
  · refine .inr ⟨by omega, by omega, ?_⟩
    rw [if_neg h]
    unfold pst
    have e : (xs.drop ((lrs xs 8).1 + (lrs xs 8).2)).take (8 - (lrs xs 8).1 - (lrs xs 8).2) = xs.drop ((lrs xs 8).1 + (lrs xs 8).2) := List.take_of_length_le (by rw [List.length_drop]; omega)
    rw [if_neg (by omega), e]
end Go.Proofs.YtboddbheljenhaaGreatDoor
