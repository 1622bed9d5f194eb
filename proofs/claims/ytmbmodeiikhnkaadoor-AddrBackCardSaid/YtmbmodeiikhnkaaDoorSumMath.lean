/-
  Check sums as plain mathematics (layer 6): the sum of the words of a list of bytes, and what folding makes of it.
-/
import Derived.WalkKit
namespace Go.Proofs.YtmbmodeiikhnkaaDoor

/-- The sum of the 16-bit words of bytes; a last single byte is the upper half of a word. -/
def words : List Int → Int
  | [] => 0
  | [a] => a * 256
  | a :: b :: r => a * 256 + b + words r
/-- What folding makes of a sum. -/
def fold (t : Int) : Int := if t = 0 then 0 else (t - 1) % 65535 + 1
def sumOf (zs : List Int) : Int := 65535 - fold (words zs)

def Bytes (zs : List Int) : Prop := ∀ z ∈ zs, 0 ≤ z ∧ z < 256

theorem words_app : ∀ (n : Nat) (xs ys : List Int), xs.length = 2 * n → words (xs ++ ys) = words xs + words ys
  | 0, xs, ys, h => by
    have : xs = [] := List.length_eq_zero_iff.1 (by omega)
    subst this; simp [words]
  | n + 1, a :: b :: r, ys, h => by
    have := words_app n r ys (by simp at h; omega)
    simp only [List.cons_append, words, this]; omega
  | n + 1, [], ys, h => by simp at h
  | n + 1, [a], ys, h => by simp at h; omega
theorem words_two (zs : List Int) (j : Nat) (h : 2 * j + 1 < zs.length) : words (zs.take (2 * j + 2)) = words (zs.take (2 * j)) + (zs.getD (2 * j) 0 * 256 + zs.getD (2 * j + 1) 0) := by
  have one : ∀ k, k < zs.length → zs.take (k + 1) = zs.take k ++ [zs.getD k 0] := fun k hk => by
    rw [List.take_add_one, List.getElem?_eq_getElem hk, List.getD_eq_getElem?_getD, List.getElem?_eq_getElem hk]; rfl
  have e : zs.take (2 * j + 2) = zs.take (2 * j) ++ [zs.getD (2 * j) 0, zs.getD (2 * j + 1) 0] := by
    rw [one (2 * j + 1) h, one (2 * j) (by omega), List.append_assoc]; rfl
  rw [e, words_app j _ _ (by simp; omega)]
  simp [words]
theorem words_one (zs : List Int) (j : Nat) (h : 2 * j + 1 = zs.length) : words zs = words (zs.take (2 * j)) + zs.getD (2 * j) 0 * 256 := by
  have e : zs = zs.take (2 * j) ++ [zs.getD (2 * j) 0] := by
    rw [List.getD_eq_getElem?_getD, List.getElem?_eq_getElem (by omega : 2 * j < zs.length)]
    have := List.take_append_drop (2 * j) zs
    rw [List.drop_eq_getElem_cons (by omega), List.drop_of_length_le (by omega)] at this
    exact this.symm
  have h2 := words_app j (zs.take (2 * j)) [zs.getD (2 * j) 0] (by simp; omega)
  rw [← e] at h2
  rw [h2]; simp [words]
theorem words_bd : ∀ (zs : List Int), Bytes zs → 0 ≤ words zs ∧ words zs ≤ 65535 * zs.length
  | [], _ => by simp [words]
  | [a], h => by
    have := h a (by simp)
    simp [words]; omega
  | a :: b :: r, h => by
    have h1 := h a (by simp)
    have h2 := h b (by simp)
    have h3 := words_bd r (fun z hz => h z (by simp [hz]))
    simp only [words, List.length_cons]
    omega
theorem bytes_take {zs : List Int} (h : Bytes zs) (k : Nat) : Bytes (zs.take k) := fun z hz => h z (List.mem_of_mem_take hz)
theorem bytes_at {zs : List Int} (h : Bytes zs) (k : Nat) : 0 ≤ zs.getD k 0 ∧ zs.getD k 0 < 256 := by
  rw [List.getD_eq_getElem?_getD]
  rcases Nat.lt_or_ge k zs.length with hk | hk
  · rw [List.getElem?_eq_getElem hk]; exact h _ (List.getElem_mem hk)
  · rw [List.getElem?_eq_none hk]; exact ⟨Int.le_refl _, by decide⟩

theorem fold_step (t : Int) (h : 65535 < t) : fold (t / 65536 + t % 65536) = fold t := by
  unfold fold
  rw [if_neg (by omega), if_neg (by omega)]
  omega
theorem fold_done (t : Int) (h0 : 0 ≤ t) (h : t ≤ 65535) : fold t = t := by
  unfold fold
  by_cases e : t = 0
  · rw [if_pos e, e]
  · rw [if_neg e, Int.emod_eq_of_lt (by omega) (by omega)]; omega
theorem fold_bd (t : Int) : 0 ≤ fold t ∧ fold t ≤ 65535 := by
  unfold fold
  by_cases e : t = 0
  · rw [if_pos e]; omega
  · rw [if_neg e]; omega

/-- The words with their own sum behind them fold to 65535. -/
theorem self (t : Int) (h0 : 0 ≤ t) : 65535 - fold (t + (65535 - fold t)) = 0 := by
  unfold fold
  by_cases e : t = 0
  · rw [if_pos e, e]; decide
  · rw [if_neg e]
    rw [if_neg (by omega)]
    omega
theorem self_sum (zs : List Int) (n : Nat) (h : Bytes zs) (hn : zs.length = 2 * n) : sumOf (zs ++ [sumOf zs / 256 % 256, sumOf zs % 256]) = 0 := by
  have hb := words_bd zs h
  have hf := fold_bd (words zs)
  have e : words [sumOf zs / 256 % 256, sumOf zs % 256] = 65535 - fold (words zs) := by
    simp only [words, sumOf]; omega
  show 65535 - fold (words (zs ++ _)) = 0
  rw [words_app n zs _ hn, e]
  exact self _ hb.1

/-- Two bytes put in. -/
def put2 (zs : List Int) (i : Nat) (a b : Int) : List Int := (zs.set i a).set (i + 1) b
theorem words_put2 : ∀ (j : Nat) (zs : List Int) (a b : Int), 2 * j + 1 < zs.length → words (put2 zs (2 * j) a b) = words zs - (zs.getD (2 * j) 0 * 256 + zs.getD (2 * j + 1) 0) + (a * 256 + b)
  | 0, x :: y :: r, a, b, _ => by simp [put2, words]; omega
  | 0, [], a, b, h => by simp at h
  | 0, [x], a, b, h => by simp at h
  | j + 1, [], a, b, h => by simp at h
  | j + 1, [x], a, b, h => by simp at h
  | j + 1, x :: y :: r, a, b, h => by
    have ih := words_put2 j r a b (by simp at h; omega)
    have e : put2 (x :: y :: r) (2 * (j + 1)) a b = x :: y :: put2 r (2 * j) a b := by
      unfold put2
      rw [show 2 * (j + 1) = 2 * j + 1 + 1 by omega]; rfl
    rw [e]
    simp only [words]
    rw [ih, show 2 * (j + 1) = 2 * j + 1 + 1 by omega]
    simp only [List.getD_cons_succ]
    omega
/-- Exchanging two words leaves the sum. -/
theorem words_swap (zs : List Int) (i k : Nat) (hi : 2 * i + 1 < zs.length) (hk : 2 * k + 1 < zs.length) :
    words (put2 (put2 zs (2 * i) (zs.getD (2 * k) 0) (zs.getD (2 * k + 1) 0)) (2 * k) (zs.getD (2 * i) 0) (zs.getD (2 * i + 1) 0)) = words zs := by
  have hl : (put2 zs (2 * i) (zs.getD (2 * k) 0) (zs.getD (2 * k + 1) 0)).length = zs.length := by simp [put2]
  rw [words_put2 k _ _ _ (by omega), words_put2 i _ _ _ hi]
  by_cases e : i = k
  · subst e
    have h1 : (put2 zs (2 * i) (zs.getD (2 * i) 0) (zs.getD (2 * i + 1) 0)).getD (2 * i) 0 = zs.getD (2 * i) 0 := by
      unfold put2
      simp [List.getD_eq_getElem?_getD, show 2 * i < zs.length by omega]
    have h2 : (put2 zs (2 * i) (zs.getD (2 * i) 0) (zs.getD (2 * i + 1) 0)).getD (2 * i + 1) 0 = zs.getD (2 * i + 1) 0 := by
      unfold put2
      simp [List.getD_eq_getElem?_getD, hi]
    rw [h1, h2]; omega
  · have h1 : (put2 zs (2 * i) (zs.getD (2 * k) 0) (zs.getD (2 * k + 1) 0)).getD (2 * k) 0 = zs.getD (2 * k) 0 := by
      unfold put2
      rw [List.getD_eq_getElem?_getD, List.getElem?_set_ne (by omega), List.getElem?_set_ne (by omega), List.getD_eq_getElem?_getD]
    have h2 : (put2 zs (2 * i) (zs.getD (2 * k) 0) (zs.getD (2 * k + 1) 0)).getD (2 * k + 1) 0 = zs.getD (2 * k + 1) 0 := by
      unfold put2
      rw [List.getD_eq_getElem?_getD, List.getElem?_set_ne (by omega), List.getElem?_set_ne (by omega), List.getD_eq_getElem?_getD]
    rw [h1, h2]; omega
end Go.Proofs.YtmbmodeiikhnkaaDoor
