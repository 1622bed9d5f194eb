/-
  Layer 7: messages of which a bit was turned: plain mathematics.
-/
import Derived.Test.YtogchaijglbjaaaNb7g
namespace Go.Proofs.Ytogchaijglbjaaa
open Go.RowKit
theorem flip8 : ∀ (x : Fin 256) (d : Fin 8), 0 ≤ bits .xor .u8 (x.val : Int) (2 ^ d.val) ∧ bits .xor .u8 (x.val : Int) (2 ^ d.val) < 256 ∧ (bits .xor .u8 (x.val : Int) (2 ^ d.val) = (x.val : Int) + 2 ^ d.val ∨ bits .xor .u8 (x.val : Int) (2 ^ d.val) = (x.val : Int) - 2 ^ d.val) := by decide +kernel
theorem words_set : ∀ (j : Nat) (zs : List Int) (y : Int), j < zs.length → zs.length % 2 = 0 → words (zs.set j y) = words zs + (y - zs.getD j 0) * (if j % 2 = 0 then 256 else 1)
  | _, [], y, h, _ => by simp at h
  | _, [a], y, _, h => by simp at h
  | 0, a :: b :: r, y, _, _ => by simp [words]; omega
  | 1, a :: b :: r, y, _, _ => by simp [words]; omega
  | j + 2, a :: b :: r, y, h, h2 => by
    have ih := words_set j r y (by simp at h; omega) (by simp at h2; omega)
    have e : (j + 2) % 2 = j % 2 := by omega
    rw [e]
    simp only [List.set_cons_succ, words, List.getD_cons_succ]
    rw [ih]; omega
theorem sum_turned (zs : List Int) (j : Nat) (y : Int) (d : Nat) (hb : Bytes zs) (hy : 0 ≤ y ∧ y < 256) (hj : j < zs.length) (he : zs.length % 2 = 0) (h0 : sumOf zs = 0) (hd : d < 8) (hyx : y = zs.getD j 0 + 2 ^ d ∨ y = zs.getD j 0 - 2 ^ d) : sumOf (zs.set j y) ≠ 0 := by
  have hw := words_set j zs y hj he
  have h1 : fold (words zs) = 65535 := by unfold sumOf at h0; omega
  have hwz := (words_bd zs hb).1
  have hb2 : Bytes (zs.set j y) := fun z hz => by
    rcases List.mem_or_eq_of_mem_set hz with h | rfl
    · exact hb z h
    · exact hy
  have hwy := (words_bd _ hb2).1
  intro h2
  have h3 : fold (words (zs.set j y)) = 65535 := by unfold sumOf at h2; omega
  have key : ∀ t : Int, 0 ≤ t → fold t = 65535 → t % 65535 = 0 := fun t ht h => by
    unfold fold at h
    split at h
    · omega
    · omega
  have k1 := key _ hwz h1
  have k2 := key _ hwy h3
  rw [hw] at k2
  generalize words zs = T at k1 k2
  generalize zs.getD j 0 = x at k2 hyx
  have hdd : d = 0 ∨ d = 1 ∨ d = 2 ∨ d = 3 ∨ d = 4 ∨ d = 5 ∨ d = 6 ∨ d = 7 := by omega
  rcases hdd with rfl | rfl | rfl | rfl | rfl | rfl | rfl | rfl <;> rcases hyx with rfl | rfl <;> split at k2 <;> simp at k2 <;> omega

/-- One bit turned. -/
theorem nat_xor_pow (x b : Nat) : x ^^^ 2 ^ b = x + 2 ^ b ∨ (x ^^^ 2 ^ b) + 2 ^ b = x := by
  have hp : 0 < 2 ^ b := Nat.pow_pos (by decide)
  have h1 : (x ^^^ 2 ^ b) / 2 ^ b = (x / 2 ^ b) ^^^ 1 := by
    rw [← Nat.shiftRight_eq_div_pow, Nat.shiftRight_xor_distrib, Nat.shiftRight_eq_div_pow, Nat.shiftRight_eq_div_pow, Nat.div_self hp]
  have h2 : (x ^^^ 2 ^ b) % 2 ^ b = x % 2 ^ b := by
    rw [Nat.xor_mod_two_pow, Nat.mod_self, Nat.xor_zero]
  have h3 : ∀ q : Nat, q ^^^ 1 = q + 1 ∨ (q ^^^ 1) + 1 = q := fun q => by
    have e1 : (q ^^^ 1) / 2 = q / 2 := by
      have := Nat.shiftRight_xor_distrib (a := q) (b := 1) (i := 1)
      simpa [Nat.shiftRight_eq_div_pow] using this
    have e2 : (q ^^^ 1) % 2 = (q % 2 + 1) % 2 := by
      have := Nat.xor_mod_two_pow (a := q) (b := 1) (n := 1)
      rcases Nat.mod_two_eq_zero_or_one q with h | h <;> simp [h] at this ⊢ <;> omega
    omega
  have d1 := Nat.div_add_mod (x ^^^ 2 ^ b) (2 ^ b)
  have d2 := Nat.div_add_mod x (2 ^ b)
  rw [h1, h2] at d1
  rcases h3 (x / 2 ^ b) with h | h
  · left
    rw [h, Nat.mul_add, Nat.mul_one] at d1
    omega
  · right
    have : 2 ^ b * (x / 2 ^ b) = 2 ^ b * ((x / 2 ^ b) ^^^ 1) + 2 ^ b := by
      rw [← Nat.mul_succ]; congr 1; exact h.symm
    omega
theorem flip64 (x : Int) (h0 : 0 ≤ x) (h1 : x < 18446744073709551616) (b : Nat) (hb : b < 64) : ∃ y : Int, bits .xor .u64 x (IntKind.u64.wrap (2 ^ b)) = y ∧ (y = x + 2 ^ b ∨ y = x - 2 ^ b) := by
  obtain ⟨a, rfl⟩ := Int.eq_ofNat_of_zero_le h0
  have ha : a < 2 ^ 64 := by omega
  have hb2 : 2 ^ b < 2 ^ 64 := Nat.pow_lt_pow_right (by decide) hb
  have e : ((2 : Int) ^ b) = ((2 ^ b : Nat) : Int) := by simp
  rw [e]
  have hx : bits .xor .u64 (a : Int) ((2 ^ b : Nat) : Int) = ((a ^^^ 2 ^ b : Nat) : Int) := by
    have ha' : a % 2 ^ IntKind.u64.bits = a := Nat.mod_eq_of_lt ha
    have hb' : 2 ^ b % 2 ^ IntKind.u64.bits = 2 ^ b := Nat.mod_eq_of_lt hb2
    have := Nat.xor_lt_two_pow ha hb2
    simp only [bits, BitVec.ofInt_natCast, BitVec.toNat_xor, BitVec.toNat_ofNat, ha', hb']
    rw [IntKind.wrap_u64]
    generalize a ^^^ 2 ^ b = z at *
    omega
  have hn := nat_xor_pow a b
  generalize a ^^^ 2 ^ b = z at *
  generalize 2 ^ b = P at *
  have hw : IntKind.u64.wrap (P : Int) = (P : Int) := by rw [IntKind.wrap_u64]; omega
  rw [hw]
  refine ⟨_, hx, ?_⟩
  omega
theorem words_by8 (n : Int) : words (by8 n 0) % 65535 = (n % 18446744073709551616) % 65535 := by
  have key : words (by8 n 0) = n / 281474976710656 % 65536 + n / 4294967296 % 65536 + n / 65536 % 65536 + n % 65536 := by
    simp [by8, List.range, List.range.loop, words]
    omega
  have hn : n % 18446744073709551616 = (n / 281474976710656 % 65536) * 281474976710656 + (n / 4294967296 % 65536) * 4294967296 + (n / 65536 % 65536) * 65536 + n % 65536 := by omega
  rw [key, hn]
  generalize n / 281474976710656 % 65536 = a
  generalize n / 4294967296 % 65536 = b
  generalize n / 65536 % 65536 = c
  generalize n % 65536 = d
  omega
theorem words_chkL (h l h2 l2 : Int) (xs : List Int) : words (chkL h l h2 l2 58 xs) = words (a16 h l) + words (by8 h2 0) + words (by8 l2 0) + words (mid8 (xs.length : Int) 58) + words xs := by
  unfold chkL
  rw [words_app 20 _ _ (by simp [a16, mid8]), words_app 16 _ _ (by simp [a16]), words_app 8 _ _ (by simp [a16])]
  rw [show a16 h2 l2 = by8 h2 0 ++ by8 l2 0 from rfl, words_app 4 _ _ (by simp)]
  omega
theorem pow_mod : ∀ b : Fin 64, (2 : Int) ^ b.val % 65535 ≠ 0 := by decide
theorem sum_zero {t : Int} (ht : 0 ≤ t) (h : 65535 - fold t = 0) : t % 65535 = 0 := by
  unfold fold at h
  split at h
  · omega
  · omega
theorem sum_moved (h l h2 l2 l2' : Int) (xs : List Int) (hb : Bytes xs) (b : Nat) (hb64 : b < 64) (r : 0 ≤ l2 ∧ l2 < 18446744073709551616) (r' : 0 ≤ l2' ∧ l2' < 18446744073709551616) (hy : l2' = l2 + 2 ^ b ∨ l2' = l2 - 2 ^ b) (h0 : sumOf (chkL h l h2 l2 58 xs) = 0) : sumOf (chkL h l h2 l2' 58 xs) ≠ 0 := by
  intro h1
  have z0 := sum_zero (words_bd _ (chkL_bytes h l h2 l2 58 hb)).1 h0
  have z1 := sum_zero (words_bd _ (chkL_bytes h l h2 l2' 58 hb)).1 h1
  rw [words_chkL] at z0 z1
  have w0 := words_by8 l2
  have w1 := words_by8 l2'
  rw [Int.emod_eq_of_lt r.1 r.2] at w0
  rw [Int.emod_eq_of_lt r'.1 r'.2] at w1
  have hp := pow_mod ⟨b, hb64⟩
  simp only at hp
  generalize (2 : Int) ^ b = P at *
  generalize words (by8 l2 0) = W at *
  generalize words (by8 l2' 0) = W' at *
  omega
theorem set_chkL (h l h2 l2 : Int) (xs : List Int) (j : Nat) (y : Int) : chkL h l h2 l2 58 (xs.set j y) = (chkL h l h2 l2 58 xs).set (40 + j) y := by
  unfold chkL
  have hl : ((a16 h l ++ a16 h2 l2) ++ mid8 (xs.length : Int) 58).length = 40 := by simp [a16, mid8]
  rw [List.length_set, List.set_append_right _ _ (by omega), hl]
  congr 2; omega
theorem sum_bad (h l h2 l2 : Int) (xs : List Int) (hb : Bytes xs) (j : Nat) (hj : j < xs.length) (he : xs.length % 2 = 0) (y : Int) (hy : 0 ≤ y ∧ y < 256) (d : Nat) (hd : d < 8) (hyx : y = xs.getD j 0 + 2 ^ d ∨ y = xs.getD j 0 - 2 ^ d) (h0 : sumOf (chkL h l h2 l2 58 xs) = 0) : sumOf (chkL h l h2 l2 58 (xs.set j y)) ≠ 0 := by
  rw [set_chkL]
  have hlen := chkL_length h l h2 l2 58 xs
  refine sum_turned _ (40 + j) y d (chkL_bytes h l h2 l2 58 hb) hy (by omega) (by omega) h0 hd ?_
  have : (chkL h l h2 l2 58 xs).getD (40 + j) 0 = xs.getD j 0 := by
    unfold chkL
    have e : ((a16 h l ++ a16 h2 l2) ++ mid8 (xs.length : Int) 58).length = 40 := by simp [a16, mid8]
    rw [List.getD_eq_getElem?_getD, List.getElem?_append_right (by omega), e, List.getD_eq_getElem?_getD]
    congr 2; omega
  rw [this]; exact hyx
theorem dec_sum (h l h2 l2 : Int) (xs : List Int) (hl : 4 ≤ xs.length) (hl2 : xs.length ≤ 1460) (hs : sumOf (chkL h l h2 l2 58 xs) ≠ 0) : decN ⟨true, h, l, true, h2, l2, 58, 255, xs⟩ = (zNK, 6) := by
  have hok : PK.ok ⟨true, h, l, true, h2, l2, 58, 255, xs⟩ = true := by
    have : (xs.length : Int) ≤ 1500 - 40 := by omega
    show (true && true && (true == true) && decide ((0 : Int) ≤ 58) && decide ((58 : Int) ≤ 255) && decide ((0 : Int) ≤ 255) && decide ((255 : Int) ≤ 255) && decide ((xs.length : Int) ≤ 1500 - 40)) = true
    rw [decide_eq_true this]; rfl
  have : outZ ⟨true, h, l, true, h2, l2, 58, 255, xs⟩ = 6 := by
    unfold outZ
    rw [if_neg (by simp [hok]), if_neg (by simp), if_neg (by simp), if_neg (by simp; omega), if_pos hs]
  unfold decN
  rw [this, if_pos (by decide)]
theorem dec_far (h l h2 l2 t : Int) (xs : List Int) (hl2 : xs.length ≤ 1460) (h0 : 0 ≤ t) (h1 : t < 255) : decN ⟨true, h, l, true, h2, l2, 58, t, xs⟩ = (zNK, 10) := by
  have hok : PK.ok ⟨true, h, l, true, h2, l2, 58, t, xs⟩ = true := by
    have : (xs.length : Int) ≤ 1500 - 40 := by omega
    have e1 : t ≤ 255 := by omega
    show (true && true && (true == true) && decide ((0 : Int) ≤ 58) && decide ((58 : Int) ≤ 255) && decide ((0 : Int) ≤ t) && decide (t ≤ 255) && decide ((xs.length : Int) ≤ 1500 - 40)) = true
    rw [decide_eq_true this, decide_eq_true h0, decide_eq_true e1]; rfl
  have : outZ ⟨true, h, l, true, h2, l2, 58, t, xs⟩ = 10 := by
    unfold outZ
    rw [if_neg (by simp [hok]), if_neg (by simp), if_pos (by simp; omega)]
  unfold decN
  rw [this, if_pos (by decide)]
end Go.Proofs.Ytogchaijglbjaaa
