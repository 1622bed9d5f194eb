/-
  Layer 1: where two colons stand in the text of an address. No walk.
-/
import Derived.Test.YtboddbheljenhaaDoorPr9
import Derived.Test.YtboddbheljenhaaDoorG05
namespace Go.Proofs.YtboddbheljenhaaDoor
open Go.RowKit
/-- Two colons at a place. -/
def D2 (l : List UInt8) (i : Nat) : Prop := l[i]? = some 58 ∧ l[i + 1]? = some 58
theorem occ2 (s : List UInt8) (i : Nat) : Lib.occAt s [58, 58] i = true ↔ D2 s i := by
  unfold Lib.occAt D2
  have e0 : s[i]? = (s.drop i)[0]? := by rw [List.getElem?_drop, Nat.add_zero]
  have e1 : s[i + 1]? = (s.drop i)[1]? := by rw [List.getElem?_drop]
  rw [e0, e1]
  generalize s.drop i = t
  match t with
  | [] => simp [List.isPrefixOf]
  | [a] => simp [List.isPrefixOf]
  | a :: b :: r =>
    constructor
    · intro h
      simp [List.isPrefixOf] at h
      obtain ⟨rfl, rfl⟩ := h
      exact ⟨rfl, rfl⟩
    · rintro ⟨h1, h2⟩
      have h1' : a = 58 := by simpa using h1
      have h2' : b = 58 := by simpa using h2
      subst h1'
      subst h2'
      rfl
theorem occ3 (s : List UInt8) (i : Nat) (h : Lib.occAt s [58, 58, 58] i = true) : D2 s i ∧ D2 s (i + 1) := by
  unfold Lib.occAt at h
  unfold D2
  have e0 : s[i]? = (s.drop i)[0]? := by rw [List.getElem?_drop, Nat.add_zero]
  have e1 : s[i + 1]? = (s.drop i)[1]? := by rw [List.getElem?_drop]
  have e2 : s[i + 1 + 1]? = (s.drop i)[2]? := by rw [List.getElem?_drop]
  rw [e0, e1, e2]
  generalize s.drop i = t at *
  match t, h with
  | [], h => simp [List.isPrefixOf] at h
  | [a], h => simp [List.isPrefixOf] at h
  | [a, b], h => simp [List.isPrefixOf] at h
  | a :: b :: c :: r, h =>
    simp [List.isPrefixOf] at h
    obtain ⟨rfl, rfl, rfl⟩ := h
    simp
/-- No two colons beside one another, none in front, none at the end. -/
structure NJ (l : List UInt8) : Prop where
  no : ∀ i, ¬ D2 l i
  fst : l[0]? ≠ some 58
  lst : ∀ i, i + 1 = l.length → l[i]? ≠ some 58
theorem nj_nil : NJ [] := ⟨fun i h => by simp [D2] at h, by simp, fun i h => by simp at h⟩
theorem not_mem_get {w : List UInt8} (h : (58 : UInt8) ∉ w) (i : Nat) : w[i]? ≠ some 58 := fun e => h (List.mem_of_getElem? e)
theorem nj_word {w : List UInt8} (h : (58 : UInt8) ∉ w) : NJ w := ⟨fun i d => not_mem_get h i d.1, not_mem_get h 0, fun i _ => not_mem_get h i⟩
theorem nj_cons {w t : List UInt8} (hw : w ≠ []) (h : (58 : UInt8) ∉ w) (ht : NJ t) (hne : t ≠ []) : NJ (w ++ 58 :: t) := by
  have hl : 0 < w.length := List.length_pos_iff.2 hw
  have htl : 0 < t.length := List.length_pos_iff.2 hne
  refine ⟨fun i d => ?_, ?_, fun i hi => ?_⟩
  · obtain ⟨d1, d2⟩ := d
    by_cases c : i < w.length
    · rw [List.getElem?_append_left c] at d1
      exact not_mem_get h i d1
    · obtain ⟨j, rfl⟩ : ∃ j, i = w.length + j := ⟨i - w.length, by omega⟩
      rw [List.getElem?_append_right (by omega), show w.length + j - w.length = j by omega] at d1
      rw [List.getElem?_append_right (by omega), show w.length + j + 1 - w.length = j + 1 by omega, List.getElem?_cons_succ] at d2
      cases j with
      | zero => exact ht.fst d2
      | succ j =>
        rw [List.getElem?_cons_succ] at d1
        exact ht.no j ⟨d1, d2⟩
  · rw [List.getElem?_append_left hl]
    exact not_mem_get h 0
  · rw [List.length_append, List.length_cons] at hi
    obtain ⟨j, hj⟩ : ∃ j, i = w.length + (j + 1) := ⟨i - w.length - 1, by omega⟩
    subst hj
    rw [List.getElem?_append_right (by omega), show w.length + (j + 1) - w.length = j + 1 by omega, List.getElem?_cons_succ]
    exact ht.lst j (by omega)
theorem hexDig_ne (d : Nat) (h : d < 16) : hexDig d ≠ 58 := by
  have : d = 0 ∨ d = 1 ∨ d = 2 ∨ d = 3 ∨ d = 4 ∨ d = 5 ∨ d = 6 ∨ d = 7 ∨ d = 8 ∨ d = 9 ∨ d = 10 ∨ d = 11 ∨ d = 12 ∨ d = 13 ∨ d = 14 ∨ d = 15 := by omega
  rcases this with rfl | rfl | rfl | rfl | rfl | rfl | rfl | rfl | rfl | rfl | rfl | rfl | rfl | rfl | rfl | rfl <;> decide
theorem hexL_no (u : Nat) : (58 : UInt8) ∉ hexL u := fun h => by
  obtain ⟨d, hd, e⟩ := hexL_bytes u 58 h
  exact hexDig_ne d hd e.symm
theorem hexJ_joinC (xs : List Nat) : hexJ xs = joinC 58 (xs.map hexL) := join_one 58 _
theorem hexJ_ne (x : Nat) (xs : List Nat) : hexJ (x :: xs) ≠ [] := by
  rw [hexJ_joinC]
  cases xs with
  | nil => simpa [joinC] using hexL_ne x
  | cons y r => simp [joinC]
theorem nj_hex : ∀ xs : List Nat, NJ (hexJ xs)
  | [] => nj_nil
  | [x] => by
    rw [hexJ_joinC]
    exact nj_word (hexL_no x)
  | x :: y :: r => by
    have ih := nj_hex (y :: r)
    have hn := hexJ_ne y r
    rw [hexJ_joinC] at ih hn ⊢
    rw [List.map_cons, joinC_cons 58 (hexL x) (by simp)]
    exact nj_cons (hexL_ne x) (hexL_no x) ih hn
/-- Two colons between two such texts stand at one place alone. -/
theorem d2_mid {a b : List UInt8} (ha : NJ a) (hb : NJ b) (i : Nat) : D2 (a ++ 58 :: 58 :: b) i ↔ i = a.length := by
  unfold D2
  constructor
  · rintro ⟨d1, d2⟩
    by_cases c : i < a.length
    · rw [List.getElem?_append_left c] at d1
      by_cases c2 : i + 1 < a.length
      · rw [List.getElem?_append_left c2] at d2
        exact absurd ⟨d1, d2⟩ (ha.no i)
      · exact absurd d1 (ha.lst i (by omega))
    · obtain ⟨j, rfl⟩ : ∃ j, i = a.length + j := ⟨i - a.length, by omega⟩
      rw [List.getElem?_append_right (by omega), show a.length + j - a.length = j by omega] at d1
      rw [List.getElem?_append_right (by omega), show a.length + j + 1 - a.length = j + 1 by omega, List.getElem?_cons_succ] at d2
      match j, d1, d2 with
      | 0, _, _ => rfl
      | 1, _, d2 => exact absurd d2 hb.fst
      | j + 2, d1, d2 =>
        rw [List.getElem?_cons_succ, List.getElem?_cons_succ] at d1
        rw [List.getElem?_cons_succ] at d2
        exact absurd ⟨d1, d2⟩ (hb.no j)
  · rintro rfl
    constructor
    · rw [List.getElem?_append_right (Nat.le_refl _), Nat.sub_self]; rfl
    · rw [List.getElem?_append_right (by omega), show a.length + 1 - a.length = 1 by omega]; rfl
theorem bool_not_true {b : Bool} (h : ¬ b = true) : b = false := by cases b <;> simp_all
theorem idx_none {s : List UInt8} (h : ∀ i, ¬ D2 s i) : Lib.index s [58, 58] = -1 := Lib.index_none fun j _ => bool_not_true fun e => h j ((occ2 s j).1 e)
theorem con3_none {s : List UInt8} (h : ∀ i, ¬ (D2 s i ∧ D2 s (i + 1))) : Lib.contains s [58, 58, 58] = false := by
  unfold Lib.contains
  rw [Lib.index_none fun j _ => bool_not_true fun e => h j (occ3 s j e)]
  rfl
theorem con2_none {s : List UInt8} (h : NJ s) : Lib.contains s [58, 58] = false := by
  unfold Lib.contains
  rw [idx_none h.no]
  rfl
theorem cnt2_none {s : List UInt8} (h : NJ s) : Lib.count s [58, 58] = 0 := Lib.count_miss (idx_none h.no)
theorem idx_mid {a b : List UInt8} (ha : NJ a) (hb : NJ b) : Lib.index (a ++ 58 :: 58 :: b) [58, 58] = (a.length : Int) :=
  Lib.index_first (by simp) ((occ2 _ _).2 ((d2_mid ha hb _).2 rfl)) fun j hj => bool_not_true fun e => by
    have := (d2_mid ha hb j).1 ((occ2 _ _).1 e)
    omega
theorem con2_mid {a b : List UInt8} (ha : NJ a) (hb : NJ b) : Lib.contains (a ++ 58 :: 58 :: b) [58, 58] = true := by
  unfold Lib.contains
  rw [idx_mid ha hb]
  simp
theorem con3_mid {a b : List UInt8} (ha : NJ a) (hb : NJ b) : Lib.contains (a ++ 58 :: 58 :: b) [58, 58, 58] = false :=
  con3_none fun i h => by
    have h1 := (d2_mid ha hb i).1 h.1
    have h2 := (d2_mid ha hb (i + 1)).1 h.2
    omega
theorem cnt2_mid {a b : List UInt8} (ha : NJ a) (hb : NJ b) : Lib.count (a ++ 58 :: 58 :: b) [58, 58] = 1 := by
  rw [Lib.count_hit (by simp) (idx_mid ha hb)]
  have e : (a ++ 58 :: 58 :: b).drop (a.length + ([58, 58] : List UInt8).length) = b := by
    rw [List.drop_append, show a.length + ([58, 58] : List UInt8).length - a.length = 2 by simp, List.drop_eq_nil_of_le (by simp)]
    rfl
  rw [e, cnt2_none hb]
/-- How many words are not empty. -/
def cntW (ws : List (List UInt8)) : Nat := (ws.filter fun w => decide (w ≠ [])).length
theorem cntW_append (a b : List (List UInt8)) : cntW (a ++ b) = cntW a + cntW b := by simp [cntW]
theorem splitC_app (c : UInt8) : ∀ (a b : List UInt8), splitC c (a ++ c :: b) = splitC c a ++ splitC c b := by
  intro a
  induction a with
  | nil => intro b; simp [splitC]
  | cons x r ih =>
    intro b
    have hne := splitC_ne c r
    rw [List.cons_append]
    by_cases h : x = c
    · subst h
      rw [splitC, splitC, ih b]
      simp
    · rw [splitC, splitC, ih b]
      cases hr : splitC c r with
      | nil => exact absurd hr hne
      | cons w ws => simp [h]
theorem cnt_hex (xs : List Nat) : cntW (splitC 58 (hexJ xs)) = xs.length := by
  cases xs with
  | nil => rfl
  | cons x r =>
    rw [hexJ_joinC, splitC_join 58 (by simp) (fun w hw => by
      obtain ⟨u, _, rfl⟩ := List.mem_map.1 hw
      exact hexL_no u)]
    unfold cntW
    rw [List.filter_eq_self.2 (fun w hw => by
      obtain ⟨u, _, rfl⟩ := List.mem_map.1 hw
      simpa using hexL_ne u)]
    simp
/-- The whole of it: what stands in the text of eight groups. -/
theorem short_lo {xs : List Nat} (h8 : xs.length = 8) (h : (lrs xs 8).2 < 2) : Lib.count (p6 xs) [58, 58] = 0 ∧ Lib.contains (p6 xs) [58, 58] = false ∧ Lib.contains (p6 xs) [58, 58, 58] = false ∧ cntW (splitC 58 (p6 xs)) = 8 := by
  unfold p6
  rw [if_pos h]
  have n := nj_hex xs
  exact ⟨cnt2_none n, con2_none n, con3_none fun i d => n.no i d.1, by rw [cnt_hex, h8]⟩
theorem short_hi {xs : List Nat} (h8 : xs.length = 8) (h : ¬ (lrs xs 8).2 < 2) : Lib.count (p6 xs) [58, 58] = 1 ∧ Lib.contains (p6 xs) [58, 58] = true ∧ Lib.contains (p6 xs) [58, 58, 58] = false ∧ cntW (splitC 58 (p6 xs)) = 8 - (lrs xs 8).2 := by
  unfold p6
  rw [if_neg h]
  have na := nj_hex (xs.take (lrs xs 8).1)
  have nb := nj_hex (xs.drop ((lrs xs 8).1 + (lrs xs 8).2))
  have hb := lrs_bd xs h8 8 (Nat.le_refl _)
  rw [List.append_assoc]
  refine ⟨cnt2_mid na nb, con2_mid na nb, con3_mid na nb, ?_⟩
  have e : ∀ x : List UInt8, ([58, 58] : List UInt8) ++ x = 58 :: ([] ++ 58 :: x) := fun _ => rfl
  rw [e, splitC_app, splitC_app, cntW_append, cntW_append, cnt_hex, cnt_hex, List.length_take, List.length_drop, h8]
  have : cntW (splitC 58 []) = 0 := rfl
  omega
theorem p6_len {xs : List Nat} (h8 : xs.length = 8) (hb : ∀ x ∈ xs, x < 65536) : (p6 xs).length ≤ 100 := by
  unfold p6
  split
  · have := hexJ_len xs hb; omega
  · have h1 := hexJ_len (xs.take (lrs xs 8).1) (fun x hx => hb x (List.mem_of_mem_take hx))
    have h2 := hexJ_len (xs.drop ((lrs xs 8).1 + (lrs xs 8).2)) (fun x hx => hb x (List.mem_of_mem_drop hx))
    rw [List.length_take] at h1
    rw [List.length_drop] at h2
    simp only [List.length_append, List.length_cons, List.length_nil]
    omega
end Go.Proofs.YtboddbheljenhaaDoor
