/-
  Layer 2: the bits of a first and of a last address. No walk.
-/
import Derived.Test.YtboddbheljenhaaDoorG08
import Derived.WalkKit
namespace Go.Proofs.YtboddbheljenhaaDoor
open Go.RowKit
def khN (v : Bool) (n : Nat) : Nat := if v = true then 64 - n else 0
def klN (v : Bool) (n : Nat) : Nat := if v = true then min 64 (128 - n) else 32 - n
def wiN (v : Bool) : Nat := if v = true then 128 else 32
/-- A number without its last k bits, and with all of them. -/
def cutZ (x : Int) (k : Nat) : Int := x - x % 2 ^ k
def filZ (x : Int) (k : Nat) : Int := x - x % 2 ^ k + (2 ^ k - 1)
theorem two_pos (k : Nat) : (0 : Int) < 2 ^ k := Int.pow_pos (by decide)
theorem cast_pow (k : Nat) : ((2 ^ k : Nat) : Int) = (2 : Int) ^ k := Int.natCast_pow 2 k
theorem cutZ_nat (x k : Nat) : cutZ (x : Int) k = ((x - x % 2 ^ k : Nat) : Int) := by
  unfold cutZ
  rw [Int.ofNat_sub (Nat.mod_le _ _), Int.natCast_emod, cast_pow]
theorem filZ_nat (x k : Nat) : filZ (x : Int) k = ((x - x % 2 ^ k + (2 ^ k - 1) : Nat) : Int) := by
  have h := cutZ_nat x k
  have hp := Nat.two_pow_pos k
  unfold cutZ at h
  unfold filZ
  rw [h, Int.natCast_add, Int.ofNat_sub hp, cast_pow]
  rfl
theorem cutZ_zero (x : Int) : cutZ x 0 = x := by unfold cutZ; simp
theorem filZ_zero (x : Int) : filZ x 0 = x := by unfold filZ; simp
theorem cutZ_bd {x : Int} (k : Nat) (h : 0 ≤ x) : 0 ≤ cutZ x k ∧ cutZ x k ≤ x := by
  obtain ⟨X, rfl⟩ := Int.eq_ofNat_of_zero_le h
  rw [cutZ_nat]
  omega
theorem cutZ_mod (x : Int) (k : Nat) : cutZ x k % 2 ^ k = 0 := by
  unfold cutZ
  have e : x - x % 2 ^ k = 2 ^ k * (x / 2 ^ k) := by rw [Int.emod_def]; omega
  rw [e, Int.mul_emod_right]
theorem cutZ_idem (x : Int) (k : Nat) : cutZ (cutZ x k) k = cutZ x k := by
  rw [cutZ, cutZ_mod, Int.sub_zero]
/-- Of a number below 2 ^ m with k at most m: stays below. -/
theorem filZ_bd {x : Int} (k m : Nat) (h : 0 ≤ x) (hx : x < 2 ^ m) (hk : k ≤ m) : x ≤ filZ x k ∧ filZ x k < 2 ^ m := by
  obtain ⟨X, rfl⟩ := Int.eq_ofNat_of_zero_le h
  have hX : X < 2 ^ m := by have := cast_pow m; omega
  have hp := Nat.two_pow_pos k
  have hm : X % 2 ^ k < 2 ^ k := Nat.mod_lt _ hp
  rw [filZ_nat, ← cast_pow]
  have h1 : X - X % 2 ^ k + (2 ^ k - 1) < 2 ^ m := by
    rw [← nat_or X k]
    exact Nat.or_lt_two_pow hX (Nat.lt_of_lt_of_le (by omega) (Nat.pow_le_pow_right (by decide) hk))
  omega
def bitZ (x : Int) (b : Nat) : Int := x / 2 ^ b % 2
theorem bitZ_nat (x b : Nat) : bitZ (x : Int) b = ((x / 2 ^ b % 2 : Nat) : Int) := by
  unfold bitZ
  rw [Int.natCast_emod, Int.natCast_ediv, cast_pow]
  rfl
theorem bit_of (x b : Nat) : x / 2 ^ b % 2 = (x.testBit b).toNat := by
  rw [Nat.testBit_eq_decide_div_mod_eq]
  have : x / 2 ^ b % 2 < 2 := Nat.mod_lt _ (by decide)
  by_cases h : x / 2 ^ b % 2 = 1
  · rw [decide_eq_true h]; exact h
  · rw [decide_eq_false h]; simp; omega
theorem bitZ_cut (x : Int) (k b : Nat) (h : 0 ≤ x) : bitZ (cutZ x k) b = if b < k then 0 else bitZ x b := by
  obtain ⟨X, rfl⟩ := Int.eq_ofNat_of_zero_le h
  rw [cutZ_nat, bitZ_nat, bitZ_nat, bit_of, bit_of, ← clr_zero, clr_bit (Nat.zero_le _)]
  by_cases hb : b < k
  · simp [hb]
  · simp [hb]
theorem bitZ_fil (x : Int) (k b : Nat) (h : 0 ≤ x) : bitZ (filZ x k) b = if b < k then 1 else bitZ x b := by
  obtain ⟨X, rfl⟩ := Int.eq_ofNat_of_zero_le h
  rw [filZ_nat, bitZ_nat, bitZ_nat, bit_of, bit_of, ← sets_zero, sets_bit (Nat.zero_le _)]
  by_cases hb : b < k
  · simp [hb]
  · simp [hb]
end Go.Proofs.YtboddbheljenhaaDoor
namespace Go.Proofs.YtboddbheljenhaaDoor

/-- The sum of the 16-bit words of bytes; a last single byte is the upper half of a word. -/
def words : List Int → Int
  | [] => 0
  | [a] => a * 256
  | a :: b :: r => a * 256 + b + words r
/-- What folding makes of a sum. -/
def fold (t : Int) : Int := if t = 0 then 0 else (t - 1) % 65535 + 1
def sumOf (zs : List Int) : Int := 65535 - fold (words zs)

def Bytes (zs : List Int) : Prop := ∀ z ∈ zs, 0 ≤ z ∧ z < 256

theorem words_app : ∀ (n : Nat) (xs ys : List Int), xs.length = 2 * n → words (xs ++ ys) = words xs + words ys
  | 0, xs, ys, h => by
    have : xs = [] := List.length_eq_zero_iff.1 (by omega)
    subst this; simp [words]
  | n + 1, a :: b :: r, ys, h => by
    have := words_app n r ys (by simp at h; omega)
    simp only [List.cons_append, words, this]; omega
  | n + 1, [], ys, h => by simp at h
  | n + 1, [a], ys, h => by simp at h; omega
theorem words_two (zs : List Int) (j : Nat) (h : 2 * j + 1 < zs.length) : words (zs.take (2 * j + 2)) = words (zs.take (2 * j)) + (zs.getD (2 * j) 0 * 256 + zs.getD (2 * j + 1) 0) := by
  have one : ∀ k, k < zs.length → zs.take (k + 1) = zs.take k ++ [zs.getD k 0] := fun k hk => by
    rw [List.take_add_one, List.getElem?_eq_getElem hk, List.getD_eq_getElem?_getD, List.getElem?_eq_getElem hk]; rfl
  have e : zs.take (2 * j + 2) = zs.take (2 * j) ++ [zs.getD (2 * j) 0, zs.getD (2 * j + 1) 0] := by
    rw [one (2 * j + 1) h, one (2 * j) (by omega), List.append_assoc]; rfl
  rw [e, words_app j _ _ (by simp; omega)]
  simp [words]
theorem words_one (zs : List Int) (j : Nat) (h : 2 * j + 1 = zs.length) : words zs = words (zs.take (2 * j)) + zs.getD (2 * j) 0 * 256 := by
  have e : zs = zs.take (2 * j) ++ [zs.getD (2 * j) 0] := by
    rw [List.getD_eq_getElem?_getD, List.getElem?_eq_getElem (by omega : 2 * j < zs.length)]
    have := List.take_append_drop (2 * j) zs
    rw [List.drop_eq_getElem_cons (by omega), List.drop_of_length_le (by omega)] at this
    exact this.symm
  have h2 := words_app j (zs.take (2 * j)) [zs.getD (2 * j) 0] (by simp; omega)
  rw [← e] at h2
  rw [h2]; simp [words]
theorem words_bd : ∀ (zs : List Int), Bytes zs → 0 ≤ words zs ∧ words zs ≤ 65535 * zs.length
  | [], _ => by simp [words]
  | [a], h => by
    have := h a (by simp)
    simp [words]; omega
  | a :: b :: r, h => by
    have h1 := h a (by simp)
    have h2 := h b (by simp)
    have h3 := words_bd r (fun z hz => h z (by simp [hz]))
    simp only [words, List.length_cons]
    omega
theorem bytes_take {zs : List Int} (h : Bytes zs) (k : Nat) : Bytes (zs.take k) := fun z hz => h z (List.mem_of_mem_take hz)
theorem bytes_at {zs : List Int} (h : Bytes zs) (k : Nat) : 0 ≤ zs.getD k 0 ∧ zs.getD k 0 < 256 := by
  rw [List.getD_eq_getElem?_getD]
  rcases Nat.lt_or_ge k zs.length with hk | hk
  · rw [List.getElem?_eq_getElem hk]; exact h _ (List.getElem_mem hk)
  · rw [List.getElem?_eq_none hk]; exact ⟨Int.le_refl _, by decide⟩

theorem fold_step (t : Int) (h : 65535 < t) : fold (t / 65536 + t % 65536) = fold t := by
  unfold fold
  rw [if_neg (by omega), if_neg (by omega)]
  omega
theorem fold_done (t : Int) (h0 : 0 ≤ t) (h : t ≤ 65535) : fold t = t := by
  unfold fold
  by_cases e : t = 0
  · rw [if_pos e, e]
  · rw [if_neg e, Int.emod_eq_of_lt (by omega) (by omega)]; omega
theorem fold_bd (t : Int) : 0 ≤ fold t ∧ fold t ≤ 65535 := by
  unfold fold
  by_cases e : t = 0
  · rw [if_pos e]; omega
  · rw [if_neg e]; omega

/-- The words with their own sum behind them fold to 65535. -/
theorem self (t : Int) (h0 : 0 ≤ t) : 65535 - fold (t + (65535 - fold t)) = 0 := by
  unfold fold
  by_cases e : t = 0
  · rw [if_pos e, e]; decide
  · rw [if_neg e]
    rw [if_neg (by omega)]
    omega
theorem self_sum (zs : List Int) (n : Nat) (h : Bytes zs) (hn : zs.length = 2 * n) : sumOf (zs ++ [sumOf zs / 256 % 256, sumOf zs % 256]) = 0 := by
  have hb := words_bd zs h
  have hf := fold_bd (words zs)
  have e : words [sumOf zs / 256 % 256, sumOf zs % 256] = 65535 - fold (words zs) := by
    simp only [words, sumOf]; omega
  show 65535 - fold (words (zs ++ _)) = 0
  rw [words_app n zs _ hn, e]
  exact self _ hb.1

/-- Two bytes put in. -/
def put2 (zs : List Int) (i : Nat) (a b : Int) : List Int := (zs.set i a).set (i + 1) b
theorem words_put2 : ∀ (j : Nat) (zs : List Int) (a b : Int), 2 * j + 1 < zs.length → words (put2 zs (2 * j) a b) = words zs - (zs.getD (2 * j) 0 * 256 + zs.getD (2 * j + 1) 0) + (a * 256 + b)
  | 0, x :: y :: r, a, b, _ => by simp [put2, words]; omega
  | 0, [], a, b, h => by simp at h
  | 0, [x], a, b, h => by simp at h
  | j + 1, [], a, b, h => by simp at h
  | j + 1, [x], a, b, h => by simp at h
  | j + 1, x :: y :: r, a, b, h => by
    have ih := words_put2 j r a b (by simp at h; omega)
    have e : put2 (x :: y :: r) (2 * (j + 1)) a b = x :: y :: put2 r (2 * j) a b := by
      unfold put2
      rw [show 2 * (j + 1) = 2 * j + 1 + 1 by omega]; rfl
    rw [e]
    simp only [words]
    rw [ih, show 2 * (j + 1) = 2 * j + 1 + 1 by omega]
    simp only [List.getD_cons_succ]
    omega
/-- Exchanging two words leaves the sum. -/
theorem words_swap (zs : List Int) (i k : Nat) (hi : 2 * i + 1 < zs.length) (hk : 2 * k + 1 < zs.length) :
    words (put2 (put2 zs (2 * i) (zs.getD (2 * k) 0) (zs.getD (2 * k + 1) 0)) (2 * k) (zs.getD (2 * i) 0) (zs.getD (2 * i + 1) 0)) = words zs := by
  have hl : (put2 zs (2 * i) (zs.getD (2 * k) 0) (zs.getD (2 * k + 1) 0)).length = zs.length := by simp [put2]
  rw [words_put2 k _ _ _ (by omega), words_put2 i _ _ _ hi]
  by_cases e : i = k
  · subst e
    have h1 : (put2 zs (2 * i) (zs.getD (2 * i) 0) (zs.getD (2 * i + 1) 0)).getD (2 * i) 0 = zs.getD (2 * i) 0 := by
      unfold put2
      simp [List.getD_eq_getElem?_getD, show 2 * i < zs.length by omega]
    have h2 : (put2 zs (2 * i) (zs.getD (2 * i) 0) (zs.getD (2 * i + 1) 0)).getD (2 * i + 1) 0 = zs.getD (2 * i + 1) 0 := by
      unfold put2
      simp [List.getD_eq_getElem?_getD, hi]
    rw [h1, h2]; omega
  · have h1 : (put2 zs (2 * i) (zs.getD (2 * k) 0) (zs.getD (2 * k + 1) 0)).getD (2 * k) 0 = zs.getD (2 * k) 0 := by
      unfold put2
      rw [List.getD_eq_getElem?_getD, List.getElem?_set_ne (by omega), List.getElem?_set_ne (by omega), List.getD_eq_getElem?_getD]
    have h2 : (put2 zs (2 * i) (zs.getD (2 * k) 0) (zs.getD (2 * k + 1) 0)).getD (2 * k + 1) 0 = zs.getD (2 * k + 1) 0 := by
      unfold put2
      rw [List.getD_eq_getElem?_getD, List.getElem?_set_ne (by omega), List.getElem?_set_ne (by omega), List.getD_eq_getElem?_getD]
    rw [h1, h2]; omega
end Go.Proofs.YtboddbheljenhaaDoor
