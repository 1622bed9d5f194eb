/-
  Layer 14: loads of links, about lists only.
-/
import Derived.Test.YtpdiainbcekpiaaFw14a
namespace Go.Proofs.Ytpdiainbcekpiaa
open Go.RowKit
theorem getD_map_range {n k : Nat} (f : Nat → Int) (hk : k < n) : ((List.range n).map f).getD k 0 = f k := by
  rw [List.getD_eq_getElem?_getD, List.getElem?_map, List.getElem?_range hk]; rfl
theorem getDb_map_range {n k : Nat} (f : Nat → Bool) (hk : k < n) : ((List.range n).map f).getD k false = f k := by
  rw [List.getD_eq_getElem?_getD, List.getElem?_map, List.getElem?_range hk]; rfl
theorem ext_getD {xs ys : List Int} (hl : xs.length = ys.length) (h : ∀ i, i < xs.length → xs.getD i 0 = ys.getD i 0) : xs = ys := by
  refine List.ext_getElem hl fun i h1 h2 => ?_
  have := h i h1
  rw [List.getD_eq_getElem?_getD, List.getD_eq_getElem?_getD, List.getElem?_eq_getElem h1, List.getElem?_eq_getElem h2] at this
  exact this
theorem ext_getDb {xs ys : List Bool} (hl : xs.length = ys.length) (h : ∀ i, i < xs.length → xs.getD i false = ys.getD i false) : xs = ys := by
  refine List.ext_getElem hl fun i h1 h2 => ?_
  have := h i h1
  rw [List.getD_eq_getElem?_getD, List.getD_eq_getElem?_getD, List.getElem?_eq_getElem h1, List.getElem?_eq_getElem h2] at this
  exact this
theorem set_getD (L : List Int) (i j : Nat) (v : Int) (hj : j < L.length) : (L.set i v).getD j 0 = if i = j then v else L.getD j 0 := by
  simp only [List.getD_eq_getElem?_getD, List.getElem?_set]
  by_cases h : i = j
  · subst h; simp [hj]
  · simp [h]
theorem set_getDb (L : List Bool) (i j : Nat) (v : Bool) (hj : j < L.length) : (L.set i v).getD j false = if i = j then v else L.getD j false := by
  simp only [List.getD_eq_getElem?_getD, List.getElem?_set]
  by_cases h : i = j
  · subst h; simp [hj]
  · simp [h]
/-- Adds a number where a way goes over a link. -/
def adT (L w : List Int) (a : Int) : List Int := (List.range L.length).map fun (k : Nat) => L.getD k 0 + bif w.contains (k : Int) then a else 0
def mkT (n : Nat) (w : List Int) : List Bool := (List.range n).map fun (k : Nat) => w.contains (k : Int)
/-- The same for the first links. -/
def pkT (L w : List Int) (a : Int) (m : Nat) : List Int := (List.range L.length).map fun (k : Nat) => L.getD k 0 + bif decide (k < m) && w.contains (k : Int) then a else 0
theorem adT_len (L w : List Int) (a : Int) : (adT L w a).length = L.length := by simp [adT]
theorem pkT_len (L w : List Int) (a : Int) (m : Nat) : (pkT L w a m).length = L.length := by simp [pkT]
theorem mkT_len (n : Nat) (w : List Int) : (mkT n w).length = n := by simp [mkT]
theorem adT_at (L w : List Int) (a : Int) {k : Nat} (hk : k < L.length) : (adT L w a).getD k 0 = L.getD k 0 + bif w.contains (k : Int) then a else 0 := getD_map_range _ hk
theorem pkT_at (L w : List Int) (a : Int) (m : Nat) {k : Nat} (hk : k < L.length) : (pkT L w a m).getD k 0 = L.getD k 0 + bif decide (k < m) && w.contains (k : Int) then a else 0 := getD_map_range _ hk
theorem mkT_at {n : Nat} (w : List Int) {k : Nat} (hk : k < n) : (mkT n w).getD k false = w.contains (k : Int) := getDb_map_range _ hk
theorem adT_nil (L : List Int) (a : Int) : adT L [] a = L := ext_getD (adT_len _ _ _) fun i hi => by
  rw [adT_len] at hi
  rw [adT_at _ _ _ hi]
  show L.getD i 0 + 0 = _
  omega
theorem adT_zero (L w : List Int) : adT L w 0 = L := ext_getD (adT_len _ _ _) fun i hi => by
  rw [adT_len] at hi
  rw [adT_at _ _ _ hi]
  cases w.contains (i : Int)
  · show L.getD i 0 + 0 = _; omega
  · show L.getD i 0 + 0 = _; omega
theorem mkT_nil (n : Nat) : mkT n [] = List.replicate n false := by
  unfold mkT
  refine ext_getDb (by simp) fun i hi => ?_
  have hi' : i < n := by simpa using hi
  rw [getDb_map_range _ hi', List.getD_eq_getElem?_getD, List.getElem?_replicate, if_pos hi']
  rfl
theorem take_contains (w : List Int) {j : Nat} (hj : j < w.length) (x : Int) : (w.take (j + 1)).contains x = ((w.take j).contains x || (x == w.getD j 0)) := by
  rw [List.take_add_one, List.getElem?_eq_getElem hj, List.getD_eq_getElem?_getD, List.getElem?_eq_getElem hj]
  simp only [Option.toList_some, Option.getD_some, List.contains_eq_mem, List.mem_append, List.mem_singleton]
  rw [Bool.eq_iff_iff]
  simp
theorem adT_hit {L w : List Int} (a : Int) {j l : Nat} (hj : j < w.length) (hw : w.getD j 0 = (l : Int)) (hl : l < L.length) (hm : (w.take j).contains (l : Int) = false) : adT L (w.take (j + 1)) a = (adT L (w.take j) a).set l ((adT L (w.take j) a).getD l 0 + a) := by
  refine ext_getD (by rw [List.length_set, adT_len, adT_len]) fun i hi => ?_
  rw [adT_len] at hi
  rw [set_getD _ _ _ _ (by rw [adT_len]; exact hi), adT_at _ _ _ hi, adT_at _ _ _ hi, adT_at _ _ _ hl, take_contains w hj, hw, hm]
  by_cases h : l = i
  · subst h
    rw [if_pos rfl, hm]
    simp
  · rw [if_neg h]
    have : ((i : Int) == (l : Int)) = false := by rw [beq_eq_false_iff_ne]; omega
    rw [this, Bool.or_false]
theorem adT_miss {L w : List Int} (a : Int) {j : Nat} (hj : j < w.length) (hm : w.getD j 0 < 0 ∨ (L.length : Int) ≤ w.getD j 0 ∨ (w.take j).contains (w.getD j 0) = true) : adT L (w.take (j + 1)) a = adT L (w.take j) a := by
  refine ext_getD (by rw [adT_len, adT_len]) fun i hi => ?_
  rw [adT_len] at hi
  rw [adT_at _ _ _ hi, adT_at _ _ _ hi, take_contains w hj]
  by_cases h : w.getD j 0 = (i : Int)
  · rcases hm with hm | hm | hm
    · omega
    · omega
    · rw [h] at hm ⊢
      rw [hm]; rfl
  · have : ((i : Int) == w.getD j 0) = false := by rw [beq_eq_false_iff_ne]; omega
    rw [this, Bool.or_false]
theorem mkT_hit {n : Nat} {w : List Int} {j l : Nat} (hj : j < w.length) (hw : w.getD j 0 = (l : Int)) : mkT n (w.take (j + 1)) = (mkT n (w.take j)).set l true := by
  refine ext_getDb (by rw [List.length_set, mkT_len, mkT_len]) fun i hi => ?_
  rw [mkT_len] at hi
  rw [set_getDb _ _ _ _ (by rw [mkT_len]; exact hi), mkT_at _ hi, mkT_at _ hi, take_contains w hj, hw]
  by_cases h : l = i
  · subst h; rw [if_pos rfl]; simp
  · rw [if_neg h]
    have : ((i : Int) == (l : Int)) = false := by rw [beq_eq_false_iff_ne]; omega
    rw [this, Bool.or_false]
theorem mkT_miss {n : Nat} {w : List Int} {j : Nat} (hj : j < w.length) (hm : w.getD j 0 < 0 ∨ (n : Int) ≤ w.getD j 0 ∨ (w.take j).contains (w.getD j 0) = true) : mkT n (w.take (j + 1)) = mkT n (w.take j) := by
  refine ext_getDb (by rw [mkT_len, mkT_len]) fun i hi => ?_
  rw [mkT_len] at hi
  rw [mkT_at _ hi, mkT_at _ hi, take_contains w hj]
  by_cases h : w.getD j 0 = (i : Int)
  · rcases hm with hm | hm | hm
    · omega
    · omega
    · rw [h] at hm ⊢
      rw [hm]; rfl
  · have : ((i : Int) == w.getD j 0) = false := by rw [beq_eq_false_iff_ne]; omega
    rw [this, Bool.or_false]
theorem pkT_zero (L w : List Int) (a : Int) : pkT L w a 0 = L := ext_getD (pkT_len _ _ _ _) fun i hi => by
  rw [pkT_len] at hi
  rw [pkT_at _ _ _ _ hi]
  rw [decide_eq_false (show ¬ i < 0 by omega), Bool.false_and, cond_false]; omega
theorem pkT_all (L w : List Int) (a : Int) : pkT L w a L.length = adT L w a := ext_getD (by rw [pkT_len, adT_len]) fun i hi => by
  rw [pkT_len] at hi
  rw [pkT_at _ _ _ _ hi, adT_at _ _ _ hi, decide_eq_true hi, Bool.true_and]
theorem pkT_step {L w : List Int} (a : Int) {m : Nat} (hm : m < L.length) : pkT L w a (m + 1) = bif w.contains (m : Int) then (pkT L w a m).set m (L.getD m 0 + a) else pkT L w a m := by
  cases hc : w.contains (m : Int) with
  | true =>
    rw [cond_true]
    refine ext_getD (by rw [List.length_set, pkT_len, pkT_len]) fun i hi => ?_
    rw [pkT_len] at hi
    rw [set_getD _ _ _ _ (by rw [pkT_len]; exact hi), pkT_at _ _ _ _ hi, pkT_at _ _ _ _ hi]
    by_cases h : m = i
    · subst h
      rw [if_pos rfl, hc, decide_eq_true (by omega)]; rfl
    · rw [if_neg h, show decide (i < m + 1) = decide (i < m) by rw [decide_eq_decide]; omega]
  | false =>
    rw [cond_false]
    refine ext_getD (by rw [pkT_len, pkT_len]) fun i hi => ?_
    rw [pkT_len] at hi
    rw [pkT_at _ _ _ _ hi, pkT_at _ _ _ _ hi]
    by_cases h : m = i
    · subst h
      rw [hc, Bool.and_false, Bool.and_false]
    · rw [show decide (i < m + 1) = decide (i < m) by rw [decide_eq_decide]; omega]
theorem pkT_keep {L w : List Int} (a : Int) {m : Nat} (hm : m < L.length) : (pkT L w a m).getD m 0 = L.getD m 0 := by
  rw [pkT_at _ _ _ _ hm, decide_eq_false (by omega), Bool.false_and, cond_false]; omega
/-- The loads by the first ways. -/
def ldN (ws : List (List Int)) (am : List Int) (n : Nat) : Nat → List Int
  | 0 => List.replicate n 0
  | i + 1 => adT (ldN ws am n i) (ws.getD i []) (am.getD i 0)
theorem ldN_len (ws : List (List Int)) (am : List Int) (n : Nat) : ∀ i, (ldN ws am n i).length = n
  | 0 => by simp [ldN]
  | i + 1 => by rw [ldN, adT_len, ldN_len ws am n i]
theorem ldN_over {ws : List (List Int)} {am : List Int} {n i : Nat} (hi : am.length ≤ i) : ldN ws am n (i + 1) = ldN ws am n i := by
  rw [ldN, show am.getD i 0 = 0 by rw [List.getD_eq_getElem?_getD, List.getElem?_eq_none hi]; rfl, adT_zero]
theorem ldN_min (ws : List (List Int)) (am : List Int) (n : Nat) : ∀ m, ldN ws am n (am.length + m) = ldN ws am n am.length
  | 0 => rfl
  | m + 1 => by rw [← Nat.add_assoc, ldN_over (by omega), ldN_min ws am n m]
theorem ldN_bd {ws : List (List Int)} {am : List Int} {n : Nat} (h : ∀ a ∈ am, 0 ≤ a ∧ a ≤ 1073741824) : ∀ i k, k < n → 0 ≤ (ldN ws am n i).getD k 0 ∧ (ldN ws am n i).getD k 0 ≤ i * 1073741824
  | 0, k, hk => by
    show 0 ≤ (List.replicate n (0 : Int)).getD k 0 ∧ _
    rw [show (ldN ws am n 0) = List.replicate n 0 from rfl, List.getD_eq_getElem?_getD, List.getElem?_replicate, if_pos hk]
    simp
  | i + 1, k, hk => by
    have ih := ldN_bd (ws := ws) h i k hk
    have ha : 0 ≤ am.getD i 0 ∧ am.getD i 0 ≤ 1073741824 := by
      by_cases hi : i < am.length
      · have : am.getD i 0 ∈ am := by
          rw [List.getD_eq_getElem?_getD, List.getElem?_eq_getElem hi]
          exact List.getElem_mem hi
        exact h _ this
      · rw [List.getD_eq_getElem?_getD, List.getElem?_eq_none (by omega)]
        simp
    rw [ldN, adT_at _ _ _ (by rw [ldN_len]; exact hk)]
    cases (ws.getD i []).contains (k : Int) with
    | true => rw [cond_true]; omega
    | false => rw [cond_false]; omega
end Go.Proofs.Ytpdiainbcekpiaa
