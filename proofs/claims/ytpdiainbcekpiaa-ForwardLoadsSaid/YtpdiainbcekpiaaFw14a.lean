/-
  Layer 14: links that lead nearer to a goal, and ways; about lists only.
-/
import Derived.Test.YtpdiainbcekpiaaFz14
import Derived.Test.YtpdiainbcekpiaaFb13u
namespace Go.Proofs.Ytpdiainbcekpiaa
open Go.RowKit
/-- The numbers below n that have a property. -/
def fltL (p : Nat → Bool) (n : Nat) : List Int := ((List.range n).filter p).map fun (i : Nat) => (i : Int)
theorem fltL_succ (p : Nat → Bool) (j : Nat) : fltL p (j + 1) = bif p j then fltL p j ++ [(j : Int)] else fltL p j := by
  unfold fltL
  rw [List.range_succ, List.filter_append, List.map_append]
  cases h : p j <;> simp [h]
theorem fltL_len (p : Nat → Bool) (j : Nat) : (fltL p j).length ≤ j := by
  unfold fltL
  rw [List.length_map]
  exact Nat.le_trans (List.length_filter_le _ _) (by simp)
theorem fltL_at {p : Nat → Bool} {n : Nat} : ∀ k, k < (fltL p n).length → ∃ i : Nat, (fltL p n).getD k 0 = i ∧ i < n ∧ p i = true := fun k hk => by
  have hm : (fltL p n).getD k 0 ∈ fltL p n := by
    rw [List.getD_eq_getElem?_getD, List.getElem?_eq_getElem hk]
    exact List.getElem_mem hk
  generalize (fltL p n).getD k 0 = x at *
  unfold fltL at hm
  obtain ⟨i, hi, rfl⟩ := List.mem_map.1 hm
  obtain ⟨h1, h2⟩ := List.mem_filter.1 hi
  exact ⟨i, rfl, List.mem_range.1 h1, h2⟩
theorem fltL_pos {p : Nat → Bool} {n i : Nat} (hi : i < n) (hp : p i = true) : 0 < (fltL p n).length := by
  have : (i : Int) ∈ fltL p n := by
    unfold fltL
    exact List.mem_map.2 ⟨i, List.mem_filter.2 ⟨List.mem_range.2 hi, hp⟩, rfl⟩
  exact List.length_pos_of_mem this
theorem fltL_nil {p : Nat → Bool} {n : Nat} (h : ∀ i, i < n → p i = false) : fltL p n = [] := by
  refine List.eq_nil_of_length_eq_zero ?_
  rcases Nat.eq_zero_or_pos (fltL p n).length with h0 | h0
  · exact h0
  · obtain ⟨i, -, h2, h3⟩ := fltL_at 0 h0
    rw [h i h2] at h3; cases h3
/-- The other end of a link. -/
def oe (f : FK) (i a : Nat) : Nat := bif f.la i == a then f.lb i else f.la i
def nrB (f : FK) (d : List Int) (a i : Nat) : Bool := (f.la i == a || f.lb i == a) && f.wk i && (d.getD (oe f i a) 0 == d.getD a 0 - 1)
/-- The working links at a switch whose other end is nearer to the goal. -/
def nrL (f : FK) (d : List Int) (a : Nat) : List Int := fltL (nrB f d a) f.ls.length
theorem oe_lt {f : FK} (h : f.ok = true) {i : Nat} (hi : i < f.ls.length) (a : Nat) : oe f i a < f.sw.toNat := by
  obtain ⟨-, -, ha, hb, -⟩ := FK.ends h hi
  obtain ⟨_, _, _, _, hdd, -⟩ := FK.ok_facts h
  unfold oe
  cases f.la i == a with
  | true => show f.lb i < _; omega
  | false => show f.la i < _; omega
theorem nr_at {f : FK} {d : List Int} {a : Nat} {k : Nat} (hk : k < (nrL f d a).length) : ∃ i : Nat, (nrL f d a).getD k 0 = i ∧ i < f.ls.length ∧ f.wk i = true ∧ (f.la i = a ∨ f.lb i = a) ∧ d.getD (oe f i a) 0 = d.getD a 0 - 1 := by
  obtain ⟨i, h1, h2, h3⟩ := fltL_at k hk
  unfold nrB at h3
  simp only [Bool.and_eq_true, Bool.or_eq_true, beq_iff_eq] at h3
  exact ⟨i, h1, h2, h3.1.2, h3.1.1, h3.2⟩
theorem nr_pos {f : FK} (h : f.ok = true) {t v : Nat} (hv : v < 8) (hd : 0 < (dsts f t).getD v 0) : 0 < (nrL f (dsts f t) v).length := by
  obtain ⟨i, hi, hw, hx⟩ := dist_near h hv hd
  refine fltL_pos hi ?_
  have hab := (FK.ends h hi).2.2.2.2
  unfold nrB oe
  rcases hx with ⟨e1, e2⟩ | ⟨e1, e2⟩
  · have q : (f.la i == v) = true := by simpa using e1
    rw [q, hw]
    simp only [Bool.true_or, Bool.true_and, cond_true, e2, beq_self_eq_true]
  · have q : (f.la i == v) = false := by
      rw [beq_eq_false_iff_ne]; omega
    have q2 : (f.lb i == v) = true := by simpa using e1
    rw [q, q2, hw]
    simp only [Bool.or_true, Bool.true_and, cond_false, e2, beq_self_eq_true]
/-- The next link, and the way. -/
def nxt (f : FK) (d : List Int) (h : Int) (a : Nat) : Nat := ((nrL f d a).getD (h % ((nrL f d a).length : Int)).toNat 0).toNat
def wyN (f : FK) (d : List Int) (h : Int) : Nat → Nat → List Int
  | 0, _ => []
  | k + 1, a => (nxt f d h a : Int) :: wyN f d h k (oe f (nxt f d h a) a)
theorem wyN_len (f : FK) (d : List Int) (h : Int) : ∀ k a, (wyN f d h k a).length = k
  | 0, _ => rfl
  | k + 1, a => by rw [wyN, List.length_cons, wyN_len f d h k]
theorem nxt_at {f : FK} (h : f.ok = true) {t v : Nat} (hv : v < 8) (hd : 0 < (dsts f t).getD v 0) (x : Int) : ∃ k : Nat, x % ((nrL f (dsts f t) v).length : Int) = (k : Int) ∧ k < (nrL f (dsts f t) v).length ∧ (nrL f (dsts f t) v).getD k 0 = (nxt f (dsts f t) x v : Int) ∧ nxt f (dsts f t) x v < f.ls.length ∧ f.wk (nxt f (dsts f t) x v) = true ∧ (f.la (nxt f (dsts f t) x v) = v ∨ f.lb (nxt f (dsts f t) x v) = v) ∧
    (dsts f t).getD (oe f (nxt f (dsts f t) x v) v) 0 = (dsts f t).getD v 0 - 1 ∧ oe f (nxt f (dsts f t) x v) v < f.sw.toNat := by
  have hp := nr_pos h hv hd
  have h1 := Int.emod_nonneg x (show ((nrL f (dsts f t) v).length : Int) ≠ 0 by omega)
  have h2 := Int.emod_lt_of_pos x (show (0 : Int) < ((nrL f (dsts f t) v).length : Int) by omega)
  obtain ⟨k, hk⟩ : ∃ k : Nat, x % ((nrL f (dsts f t) v).length : Int) = (k : Int) := ⟨(x % ((nrL f (dsts f t) v).length : Int)).toNat, by omega⟩
  have hkl : k < (nrL f (dsts f t) v).length := by omega
  obtain ⟨i, e1, e2, e3, e4, e5⟩ := nr_at hkl
  have hn : nxt f (dsts f t) x v = i := by
    unfold nxt
    rw [hk, Int.toNat_natCast, e1, Int.toNat_natCast]
  rw [hn]
  exact ⟨k, hk, hkl, e1, e2, e3, e4, e5, oe_lt h e2 v⟩
/-- Whether there is a way, and the way. -/
def wayB (f : FK) (s t : Int) : Bool := decide (0 ≤ s) && decide (s < f.sw) && decide (0 ≤ (dsts f t).getD s.toNat 0)
def wayL (f : FK) (s t h : Int) : List Int := bif wayB f s t then wyN f (dsts f t) h ((dsts f t).getD s.toNat 0).toNat s.toNat else []
theorem wayL_len (f : FK) (s t h : Int) : (wayL f s t h).length = bif wayB f s t then ((dsts f t).getD s.toNat 0).toNat else 0 := by
  unfold wayL
  cases wayB f s t
  · rfl
  · exact wyN_len _ _ _ _ _
theorem getD_takeD (d : List Int) (n v : Nat) (hv : v < n) : (d.take n).getD v 0 = d.getD v 0 := getD_take d n v hv
end Go.Proofs.Ytpdiainbcekpiaa
