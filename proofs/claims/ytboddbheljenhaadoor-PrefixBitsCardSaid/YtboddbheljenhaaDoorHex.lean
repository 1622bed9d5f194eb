/-
  Hexadecimal numerals. No program is named here, and no model is run.
-/
import Derived.Test.YtboddbheljenhaaDoorTxt
namespace Go.Proofs.YtboddbheljenhaaDoor
open Go.RowKit
/-- A digit below 16, in small letters. -/
def hexDig (d : Nat) : UInt8 := if d < 10 then UInt8.ofNat (48 + d) else UInt8.ofNat (87 + d)
def hexL (u : Nat) : List UInt8 := if h : u < 16 then [hexDig u] else hexL (u / 16) ++ [hexDig (u % 16)]
termination_by u
decreasing_by omega
theorem hexL_small {u : Nat} (h : u < 16) : hexL u = [hexDig u] := by rw [hexL, dif_pos h]
theorem hexL_big {u : Nat} (h : ¬ u < 16) : hexL u = hexL (u / 16) ++ [hexDig (u % 16)] := by rw [hexL, dif_neg h]
theorem hexDig_toNat {d : Nat} (h : d < 16) : (hexDig d).toNat = if d < 10 then 48 + d else 87 + d := by
  unfold hexDig
  split
  · simp; omega
  · simp; omega
/-- What a byte is worth as a digit, in letters of either case. -/
def hexV (c : UInt8) : Option Nat :=
  if 48 ≤ c.toNat ∧ c.toNat ≤ 57 then some (c.toNat - 48)
  else if 97 ≤ c.toNat ∧ c.toNat ≤ 102 then some (c.toNat - 87)
  else if 65 ≤ c.toNat ∧ c.toNat ≤ 70 then some (c.toNat - 55)
  else none
theorem hexV_lt {c : UInt8} {d : Nat} (h : hexV c = some d) : d < 16 := by
  unfold hexV at h
  split at h
  · injection h with h; omega
  · split at h
    · injection h with h; omega
    · split at h
      · injection h with h; omega
      · cases h
theorem hexV_dig {d : Nat} (h : d < 16) : hexV (hexDig d) = some d := by
  have e := hexDig_toNat h
  unfold hexV
  by_cases h1 : d < 10
  · rw [if_pos h1] at e
    rw [if_pos (by omega), e]
    congr 1; omega
  · rw [if_neg h1] at e
    rw [if_neg (by omega), if_pos (by omega), e]
    congr 1; omega
/-- What digits spell behind a number; none if a byte is no digit. -/
def hexN : Nat → List UInt8 → Option Nat
  | acc, [] => some acc
  | acc, c :: r => match hexV c with
    | some d => hexN (acc * 16 + d) r
    | none => none
theorem hexN_append : ∀ (a b : List UInt8) (acc : Nat), hexN acc (a ++ b) = (hexN acc a).bind fun n => hexN n b
  | [], b, acc => rfl
  | c :: a, b, acc => by
    simp only [List.cons_append, hexN]
    cases hexV c with
    | none => rfl
    | some d => exact hexN_append a b _
theorem hexN_hexL (u : Nat) : hexN 0 (hexL u) = some u := by
  induction u using Nat.strongRecOn with
  | ind u ih =>
    by_cases h : u < 16
    · rw [hexL_small h]
      simp only [hexN, hexV_dig h]
      congr 1; omega
    · rw [hexL_big h, hexN_append, ih (u / 16) (by omega)]
      simp only [Option.bind_some, hexN, hexV_dig (show u % 16 < 16 by omega)]
      congr 1; omega
theorem hexN_lt : ∀ (l : List UInt8) (acc n : Nat), hexN acc l = some n → n < (acc + 1) * 16 ^ l.length
  | [], acc, n, h => by
    simp only [hexN] at h
    injection h with h
    simp; omega
  | c :: r, acc, n, h => by
    simp only [hexN] at h
    cases hc : hexV c with
    | none => rw [hc] at h; cases h
    | some d =>
      rw [hc] at h
      have h1 := hexV_lt hc
      have h2 := hexN_lt r _ n h
      refine Nat.lt_of_lt_of_le h2 ?_
      rw [List.length_cons, Nat.pow_succ]
      have h3 : acc * 16 + d + 1 ≤ (acc + 1) * 16 := by omega
      calc (acc * 16 + d + 1) * 16 ^ r.length ≤ ((acc + 1) * 16) * 16 ^ r.length := Nat.mul_le_mul_right _ h3
        _ = (acc + 1) * (16 ^ r.length * 16) := by rw [Nat.mul_assoc, Nat.mul_comm 16]
theorem hexL_len (k : Nat) : ∀ u, u < 16 ^ (k + 1) → (hexL u).length ≤ k + 1 := by
  induction k with
  | zero => intro u hu; rw [hexL_small (by simpa using hu)]; simp
  | succ k ih =>
    intro u hu
    by_cases h : u < 16
    · rw [hexL_small h]; simp
    · have := ih (u / 16) (by rw [Nat.pow_succ] at hu; omega)
      rw [hexL_big h, List.length_append, List.length_singleton]
      omega
theorem hexL_ne (u : Nat) : hexL u ≠ [] := by
  by_cases h : u < 16
  · rw [hexL_small h]; simp
  · rw [hexL_big h]; simp
theorem hexL_bytes (u : Nat) : ∀ x ∈ hexL u, ∃ d, d < 16 ∧ x = hexDig d := by
  induction u using Nat.strongRecOn with
  | ind u ih =>
    intro x hx
    by_cases h : u < 16
    · rw [hexL_small h] at hx
      simp only [List.mem_singleton] at hx
      exact ⟨u, h, hx⟩
    · rw [hexL_big h, List.mem_append] at hx
      rcases hx with hx | hx
      · exact ih (u / 16) (by omega) x hx
      · simp only [List.mem_singleton] at hx
        exact ⟨u % 16, by omega, hx⟩
end Go.Proofs.YtboddbheljenhaaDoor
