/-
  Layer 6: one bit of a header with its sum, turned: plain mathematics.
-/
import Derived.Test.YtojapodjlpffdaaDecB6
namespace Go.Proofs.Ytojapodjlpffdaa
open Go.RowKit
theorem flip8 : ∀ (x : Fin 256) (d : Fin 8), 0 ≤ bits .xor .u8 (x.val : Int) (2 ^ d.val) ∧ bits .xor .u8 (x.val : Int) (2 ^ d.val) < 256 ∧ (bits .xor .u8 (x.val : Int) (2 ^ d.val) = (x.val : Int) + 2 ^ d.val ∨ bits .xor .u8 (x.val : Int) (2 ^ d.val) = (x.val : Int) - 2 ^ d.val) := by decide +kernel
theorem words_set : ∀ (j : Nat) (zs : List Int) (y : Int), j < zs.length → zs.length % 2 = 0 → words (zs.set j y) = words zs + (y - zs.getD j 0) * (if j % 2 = 0 then 256 else 1)
  | _, [], y, h, _ => by simp at h
  | _, [a], y, _, h => by simp at h
  | 0, a :: b :: r, y, _, _ => by simp [words]; omega
  | 1, a :: b :: r, y, _, _ => by simp [words]; omega
  | j + 2, a :: b :: r, y, h, h2 => by
    have ih := words_set j r y (by simp at h; omega) (by simp at h2; omega)
    have e : (j + 2) % 2 = j % 2 := by omega
    rw [e]
    simp only [List.set_cons_succ, words, List.getD_cons_succ]
    rw [ih]; omega
theorem words_hs4 (n l l2 pr ttl : Int) : sumOf (hs4 n l l2 pr ttl) = 0 := by
  have h := words_put2 5 (hd4 n l l2 pr ttl) (sumOf (hd4 n l l2 pr ttl) / 256 % 256) (sumOf (hd4 n l l2 pr ttl) % 256) (by simp)
  have e1 : (hd4 n l l2 pr ttl).getD (2 * 5) 0 = 0 := rfl
  have e2 : (hd4 n l l2 pr ttl).getD (2 * 5 + 1) 0 = 0 := rfl
  rw [e1, e2] at h
  have hp : put2 (hd4 n l l2 pr ttl) (2 * 5) (sumOf (hd4 n l l2 pr ttl) / 256 % 256) (sumOf (hd4 n l l2 pr ttl) % 256) = hs4 n l l2 pr ttl := rfl
  rw [hp] at h
  have hf := fold_bd (words (hd4 n l l2 pr ttl))
  have hw := (words_bd _ (hd4_bytes n l l2 pr ttl)).1
  have hS : sumOf (hd4 n l l2 pr ttl) = 65535 - fold (words (hd4 n l l2 pr ttl)) := rfl
  have e3 : words (hs4 n l l2 pr ttl) = words (hd4 n l l2 pr ttl) + (65535 - fold (words (hd4 n l l2 pr ttl))) := by rw [h]; omega
  show 65535 - fold (words (hs4 n l l2 pr ttl)) = 0
  rw [e3]
  exact self _ hw
theorem sum_turned (zs : List Int) (j : Nat) (y : Int) (d : Nat) (hb : Bytes zs) (hy : 0 ≤ y ∧ y < 256) (hj : j < zs.length) (he : zs.length % 2 = 0) (h0 : sumOf zs = 0) (hd : d < 8) (hyx : y = zs.getD j 0 + 2 ^ d ∨ y = zs.getD j 0 - 2 ^ d) : sumOf (zs.set j y) ≠ 0 := by
  have hw := words_set j zs y hj he
  have h1 : fold (words zs) = 65535 := by unfold sumOf at h0; omega
  have hwz := (words_bd zs hb).1
  have hb2 : Bytes (zs.set j y) := fun z hz => by
    rcases List.mem_or_eq_of_mem_set hz with h | rfl
    · exact hb z h
    · exact hy
  have hwy := (words_bd _ hb2).1
  intro h2
  have h3 : fold (words (zs.set j y)) = 65535 := by unfold sumOf at h2; omega
  have key : ∀ t : Int, 0 ≤ t → fold t = 65535 → t % 65535 = 0 := fun t ht h => by
    unfold fold at h
    split at h
    · omega
    · omega
  have k1 := key _ hwz h1
  have k2 := key _ hwy h3
  rw [hw] at k2
  generalize words zs = T at k1 k2
  generalize zs.getD j 0 = x at k2 hyx
  have hdd : d = 0 ∨ d = 1 ∨ d = 2 ∨ d = 3 ∨ d = 4 ∨ d = 5 ∨ d = 6 ∨ d = 7 := by omega
  rcases hdd with rfl | rfl | rfl | rfl | rfl | rfl | rfl | rfl <;> rcases hyx with rfl | rfl <;> split at k2 <;> simp at k2 <;> omega
end Go.Proofs.Ytojapodjlpffdaa
