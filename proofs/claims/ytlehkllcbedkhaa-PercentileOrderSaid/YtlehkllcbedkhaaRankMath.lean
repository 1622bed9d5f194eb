/-
  Ranks in a sorted list. No program is named here.
-/
import Derived.Test.YtlehkllcbedkhaaMem
namespace Go.Proofs.Ytlehkllcbedkhaa
def sortZ (zs : List Int) : List Int := zs.mergeSort fun x y => decide (x ≤ y)
theorem sortZ_length (zs : List Int) : (sortZ zs).length = zs.length := by simp [sortZ]
theorem sortZ_perm (zs : List Int) : (sortZ zs).Perm zs := List.mergeSort_perm _ _
theorem sortZ_sorted (zs : List Int) : (sortZ zs).Pairwise (· ≤ ·) := by
  have h := List.pairwise_mergeSort (le := fun (x y : Int) => decide (x ≤ y)) (by intro a b c; simp; omega) (by intro a b; simp; omega) zs
  exact h.imp (by intro a b; simp)

def upN (x : Int) (l : List Int) : Nat := l.countP fun v => decide (v ≤ x)
def beN (x : Int) (l : List Int) : Nat := l.countP fun v => decide (v < x)
def hasN (x : Int) (l : List Int) : Bool := l.any fun v => v == x
theorem upN_snoc (x : Int) (l : List Int) (v : Int) : upN x (l ++ [v]) = upN x l + if v ≤ x then 1 else 0 := by simp [upN, List.countP_append, List.countP_cons]
theorem beN_snoc (x : Int) (l : List Int) (v : Int) : beN x (l ++ [v]) = beN x l + if v < x then 1 else 0 := by simp [beN, List.countP_append, List.countP_cons]
theorem hasN_snoc (x : Int) (l : List Int) (v : Int) : hasN x (l ++ [v]) = (hasN x l || v == x) := by simp [hasN]
theorem upN_le (x : Int) (l : List Int) : upN x l ≤ l.length := List.countP_le_length
theorem beN_le (x : Int) (l : List Int) : beN x l ≤ l.length := List.countP_le_length
theorem sortZ_le (zs : List Int) (i j : Nat) (hij : i ≤ j) (hj : j < zs.length) : (sortZ zs).getD i 0 ≤ (sortZ zs).getD j 0 := by
  have hl := sortZ_length zs
  have hs := sortZ_sorted zs
  rcases Nat.lt_or_eq_of_le hij with h | h
  · have := (List.pairwise_iff_getElem.1 hs) i j (by omega) (by omega) h
    simpa [List.getD_eq_getElem?_getD, List.getElem?_eq_getElem (show i < (sortZ zs).length by omega), List.getElem?_eq_getElem (show j < (sortZ zs).length by omega)] using this
  · subst h; exact Int.le_refl _
theorem rank_up (zs : List Int) (r : Nat) (h : r < zs.length) : r + 1 ≤ upN ((sortZ zs).getD r 0) zs := by
  have hl := sortZ_length zs
  have e : upN ((sortZ zs).getD r 0) zs = upN ((sortZ zs).getD r 0) (sortZ zs) := ((sortZ_perm zs).countP_eq _).symm
  rw [e]
  generalize hx : (sortZ zs).getD r 0 = x
  unfold upN
  rw [← List.take_append_drop (r + 1) (sortZ zs), List.countP_append]
  have : ((sortZ zs).take (r + 1)).countP (fun v => decide (v ≤ x)) = ((sortZ zs).take (r + 1)).length := by
    rw [List.countP_eq_length]
    intro a ha
    obtain ⟨i, hi, rfl⟩ := List.mem_iff_getElem.1 ha
    have hi' : i < r + 1 := by simp at hi; omega
    have := sortZ_le zs i r (by omega) h
    rw [hx] at this
    simp only [List.getElem_take]
    simpa [List.getD_eq_getElem?_getD, List.getElem?_eq_getElem (show i < (sortZ zs).length by omega)] using this
  rw [this]
  simp
  omega
theorem rank_be (zs : List Int) (r : Nat) (h : r < zs.length) : beN ((sortZ zs).getD r 0) zs ≤ r := by
  have hl := sortZ_length zs
  have e : beN ((sortZ zs).getD r 0) zs = beN ((sortZ zs).getD r 0) (sortZ zs) := ((sortZ_perm zs).countP_eq _).symm
  rw [e]
  generalize hx : (sortZ zs).getD r 0 = x
  unfold beN
  rw [← List.take_append_drop r (sortZ zs), List.countP_append]
  have h2 : ((sortZ zs).drop r).countP (fun v => decide (v < x)) = 0 := by
    rw [List.countP_eq_zero]
    intro a ha
    obtain ⟨i, hi, rfl⟩ := List.mem_iff_getElem.1 ha
    have hi' : r + i < zs.length := by simp at hi; omega
    have := sortZ_le zs r (r + i) (by omega) hi'
    rw [hx] at this
    simp only [List.getElem_drop]
    simpa [List.getD_eq_getElem?_getD, List.getElem?_eq_getElem (show r + i < (sortZ zs).length by omega)] using this
  rw [h2]
  have := List.countP_le_length (p := fun v => decide (v < x)) (l := (sortZ zs).take r)
  simp at this
  omega
theorem rank_has (zs : List Int) (r : Nat) (h : r < zs.length) : hasN ((sortZ zs).getD r 0) zs = true := by
  have hl := sortZ_length zs
  unfold hasN
  rw [List.any_eq_true]
  refine ⟨(sortZ zs).getD r 0, ?_, by simp⟩
  rw [← (sortZ_perm zs).mem_iff]
  rw [List.getD_eq_getElem?_getD, List.getElem?_eq_getElem (show r < (sortZ zs).length by omega)]
  exact List.getElem_mem _
/-- Twenty numbers, sorted. -/
theorem sort_twenty : sortZ ((List.range 20).map fun (i : Nat) => (20 - (i : Int) : Int)) = (List.range 20).map fun (i : Nat) => ((i : Int) + 1 : Int) := by
  have h1 := sortZ_sorted ((List.range 20).map fun (i : Nat) => (20 - (i : Int) : Int))
  have h2 : ((List.range 20).map fun (i : Nat) => ((i : Int) + 1 : Int)).Pairwise (· ≤ ·) := by decide
  have hp : (sortZ ((List.range 20).map fun (i : Nat) => (20 - (i : Int) : Int))).Perm ((List.range 20).map fun (i : Nat) => ((i : Int) + 1 : Int)) := (sortZ_perm _).trans (by decide)
  exact hp.eq_of_pairwise (fun a b _ _ h3 h4 => Int.le_antisymm h3 h4) h1 h2
end Go.Proofs.Ytlehkllcbedkhaa
