/-
  Layer 6: what Decode answers to the bytes of a packet: plain mathematics.
-/
import Derived.Test.YtojapodjlpffdaaDec6G
import Derived.Test.YtojapodjlpffdaaFlip6
import Derived.Test.YtojapodjlpffdaaMade6
namespace Go.Proofs.Ytojapodjlpffdaa
open Go.RowKit
theorem pk_pure (p : PK) (e : Int) : (AVal.tuple [.agg p.A, .val (.int .i64 e)]).pure = true := by simp [AVal.pure, AVal.pures, PK.A, pures_ints]
theorem enc6_bytes (h l h2 l2 pr ttl : Int) {bs : List Int} (hb : Bytes bs) : Bytes (enc6 h l h2 l2 pr ttl bs) := bytes_app (bytes_app (fun z hz => by
  simp only [lit8, List.mem_cons, List.not_mem_nil, or_false] at hz
  omega) (bytes_app (a16_bytes _ _) (a16_bytes _ _))) hb
theorem hs4_bytes (n l l2 pr ttl : Int) : Bytes (hs4 n l l2 pr ttl) := by
  have hf : 0 ≤ sumOf (hd4 n l l2 pr ttl) ∧ sumOf (hd4 n l l2 pr ttl) ≤ 65535 := by
    have h := fold_bd (words (hd4 n l l2 pr ttl))
    unfold sumOf; omega
  intro z hz
  rcases List.mem_or_eq_of_mem_set hz with h | rfl
  · rcases List.mem_or_eq_of_mem_set h with h | rfl
    · exact hd4_bytes _ _ _ _ _ z h
    · omega
  · omega
theorem hs4_eq (n l l2 pr ttl : Int) : hs4 n l l2 pr ttl = 69 :: 0 :: (n / 256 % 256) :: (n % 256) :: 0 :: 0 :: 64 :: 0 :: (ttl % 256) :: (pr % 256) :: (sumOf (hd4 n l l2 pr ttl) / 256 % 256) :: (sumOf (hd4 n l l2 pr ttl) % 256) :: (by4 l 0 ++ by4 l2 0) := rfl
theorem dec_enc4 (l l2 pr ttl : Int) (bs more : List Int) (hl : 0 ≤ l ∧ l ≤ 4294967295) (hl2 : 0 ≤ l2 ∧ l2 ≤ 4294967295) (hpr : 0 ≤ pr ∧ pr ≤ 255) (ht : 0 ≤ ttl ∧ ttl ≤ 255) (hb : bs.length ≤ 1480) :
    decZ ((hs4 (20 + bs.length) l l2 pr ttl ++ bs) ++ more) = (⟨false, 0, l, false, 0, l2, pr, ttl, bs⟩, 0) := by
  have hs := words_hs4 (20 + bs.length) l l2 pr ttl
  have hlen := hs4_length (20 + bs.length) l l2 pr ttl
  have htk : ((hs4 (20 + bs.length) l l2 pr ttl ++ bs) ++ more).take 20 = hs4 (20 + bs.length) l l2 pr ttl := by
    rw [List.append_assoc, List.take_left' hlen]
  have hdr : ((hs4 (20 + bs.length) l l2 pr ttl ++ bs) ++ more).drop 20 = bs ++ more := by
    rw [List.append_assoc, List.drop_left' hlen]
  have hln : ((hs4 (20 + bs.length) l l2 pr ttl ++ bs) ++ more).length = 20 + bs.length + more.length := by simp; omega
  have hE := hs4_eq (20 + bs.length) l l2 pr ttl
  have g0 : ((hs4 (20 + bs.length) l l2 pr ttl ++ bs) ++ more).getD 0 0 = 69 := by rw [hE]; rfl
  have g2 : w2 ((hs4 (20 + bs.length) l l2 pr ttl ++ bs) ++ more) 2 = ((20 + bs.length : Nat) : Int) := by
    rw [hE]
    show (20 + (bs.length : Int)) / 256 % 256 * 256 + (20 + (bs.length : Int)) % 256 = _
    omega
  have g6 : w2 ((hs4 (20 + bs.length) l l2 pr ttl ++ bs) ++ more) 6 = 16384 := by rw [hE]; rfl
  have g8 : ((hs4 (20 + bs.length) l l2 pr ttl ++ bs) ++ more).getD 8 0 = ttl := by
    rw [hE]; show ttl % 256 = ttl; omega
  have g9 : ((hs4 (20 + bs.length) l l2 pr ttl ++ bs) ++ more).getD 9 0 = pr := by
    rw [hE]; show pr % 256 = pr; omega
  have g12 : (((hs4 (20 + bs.length) l l2 pr ttl ++ bs) ++ more).drop 12).take 4 = by4 l 0 := by
    rw [hE]; simp only [List.cons_append, List.drop_succ_cons, List.drop_zero, List.append_assoc]
    exact List.take_left' (by simp)
  have g16 : (((hs4 (20 + bs.length) l l2 pr ttl ++ bs) ++ more).drop 16).take 4 = by4 l2 0 := by
    rw [hE]; simp only [List.cons_append, List.drop_succ_cons, List.drop_zero, List.append_assoc]
    rw [List.drop_left' (by simp)]
    exact List.take_left' (by simp)
  generalize (hs4 (20 + bs.length) l l2 pr ttl ++ bs) ++ more = xs at *
  have hraw : raw4 xs = (⟨false, 0, l, false, 0, l2, pr, ttl, bs⟩, 0) := by
    unfold raw4
    rw [g0, g2, g6, g8, g9, g12, g16, hln]
    rw [if_neg (by omega), if_neg (by omega), if_neg (by omega)]
    have e20 : (4 * ((69 : Int) % 16)).toNat = 20 := by decide
    rw [e20, htk, hs, hdr, numZ_by4, numZ_by4]
    rw [if_neg (by decide), if_neg (by decide)]
    have e1 : l % 4294967296 = l := by omega
    have e2 : l2 % 4294967296 = l2 := by omega
    have e3 : (((20 + bs.length : Nat) : Int)).toNat - 20 = bs.length := by omega
    rw [e1, e2, e3, List.take_left' rfl]
  have hD : rawD xs = (⟨false, 0, l, false, 0, l2, pr, ttl, bs⟩, 0) := by
    unfold rawD
    rw [if_neg (by omega), g0, if_pos (by decide), hraw]
  unfold decZ
  rw [hD]
  have hok : PK.ok ⟨false, 0, l, false, 0, l2, pr, ttl, bs⟩ = true := by
    have a1 := hl.2; have a2 := hl2.2; have a3 : (bs.length : Int) ≤ 1480 := by omega
    simp [PK.ok, validP, aok, headZ, a1, a2, hpr.1, hpr.2, ht.1, ht.2, a3]
  simp [hok]
theorem dec_enc6 (h l h2 l2 pr ttl : Int) (bs more : List Int) (hh : 0 ≤ h ∧ h < 18446744073709551616) (hl : 0 ≤ l ∧ l < 18446744073709551616) (hh2 : 0 ≤ h2 ∧ h2 < 18446744073709551616) (hl2 : 0 ≤ l2 ∧ l2 < 18446744073709551616) (hpr : 0 ≤ pr ∧ pr ≤ 255) (ht : 0 ≤ ttl ∧ ttl ≤ 255) (hb : bs.length ≤ 1460) :
    decZ (enc6 h l h2 l2 pr ttl bs ++ more) = (⟨true, h, l, true, h2, l2, pr, ttl, bs⟩, 0) := by
  have hE : enc6 h l h2 l2 pr ttl bs ++ more = 96 :: 0 :: 0 :: 0 :: ((bs.length : Int) / 256 % 256) :: ((bs.length : Int) % 256) :: (pr % 256) :: (ttl % 256) :: (by8 h 0 ++ (by8 l 0 ++ (by8 h2 0 ++ (by8 l2 0 ++ (bs ++ more))))) := by
    simp [enc6, lit8, a16]
  have hln : (enc6 h l h2 l2 pr ttl bs ++ more).length = 40 + bs.length + more.length := by simp
  rw [hE] at hln ⊢
  have g0 : ((96 : Int) :: 0 :: 0 :: 0 :: ((bs.length : Int) / 256 % 256) :: ((bs.length : Int) % 256) :: (pr % 256) :: (ttl % 256) :: (by8 h 0 ++ (by8 l 0 ++ (by8 h2 0 ++ (by8 l2 0 ++ (bs ++ more)))))).getD 0 0 = 96 := rfl
  have g4 : w2 ((96 : Int) :: 0 :: 0 :: 0 :: ((bs.length : Int) / 256 % 256) :: ((bs.length : Int) % 256) :: (pr % 256) :: (ttl % 256) :: (by8 h 0 ++ (by8 l 0 ++ (by8 h2 0 ++ (by8 l2 0 ++ (bs ++ more)))))) 4 = (bs.length : Int) := by
    show (bs.length : Int) / 256 % 256 * 256 + (bs.length : Int) % 256 = _
    omega
  have g6 : ((96 : Int) :: 0 :: 0 :: 0 :: ((bs.length : Int) / 256 % 256) :: ((bs.length : Int) % 256) :: (pr % 256) :: (ttl % 256) :: (by8 h 0 ++ (by8 l 0 ++ (by8 h2 0 ++ (by8 l2 0 ++ (bs ++ more)))))).getD 6 0 = pr := by
    show pr % 256 = pr; omega
  have g7 : ((96 : Int) :: 0 :: 0 :: 0 :: ((bs.length : Int) / 256 % 256) :: ((bs.length : Int) % 256) :: (pr % 256) :: (ttl % 256) :: (by8 h 0 ++ (by8 l 0 ++ (by8 h2 0 ++ (by8 l2 0 ++ (bs ++ more)))))).getD 7 0 = ttl := by
    show ttl % 256 = ttl; omega
  have d8 : ((96 : Int) :: 0 :: 0 :: 0 :: ((bs.length : Int) / 256 % 256) :: ((bs.length : Int) % 256) :: (pr % 256) :: (ttl % 256) :: (by8 h 0 ++ (by8 l 0 ++ (by8 h2 0 ++ (by8 l2 0 ++ (bs ++ more)))))).drop 8 = by8 h 0 ++ (by8 l 0 ++ (by8 h2 0 ++ (by8 l2 0 ++ (bs ++ more)))) := rfl
  generalize (96 : Int) :: 0 :: 0 :: 0 :: ((bs.length : Int) / 256 % 256) :: ((bs.length : Int) % 256) :: (pr % 256) :: (ttl % 256) :: (by8 h 0 ++ (by8 l 0 ++ (by8 h2 0 ++ (by8 l2 0 ++ (bs ++ more))))) = xs at *
  have n8 : ∀ n, (by8 n 0).length = 8 := fun n => by simp
  have d16 : xs.drop 16 = by8 l 0 ++ (by8 h2 0 ++ (by8 l2 0 ++ (bs ++ more))) := by
    rw [show (16 : Nat) = 8 + 8 from rfl, ← List.drop_drop, d8, List.drop_left' (n8 _)]
  have d24 : xs.drop 24 = by8 h2 0 ++ (by8 l2 0 ++ (bs ++ more)) := by
    rw [show (24 : Nat) = 16 + 8 from rfl, ← List.drop_drop, d16, List.drop_left' (n8 _)]
  have d32 : xs.drop 32 = by8 l2 0 ++ (bs ++ more) := by
    rw [show (32 : Nat) = 24 + 8 from rfl, ← List.drop_drop, d24, List.drop_left' (n8 _)]
  have d40 : xs.drop 40 = bs ++ more := by
    rw [show (40 : Nat) = 32 + 8 from rfl, ← List.drop_drop, d32, List.drop_left' (n8 _)]
  have hraw : raw6 xs = (⟨true, h, l, true, h2, l2, pr, ttl, bs⟩, 0) := by
    unfold raw6
    rw [if_neg (by omega), g4, g6, g7, d8, d16, d24, d32, d40, List.take_left' (n8 _), List.take_left' (n8 _), List.take_left' (n8 _), List.take_left' (n8 _), Int.toNat_natCast, List.take_left' rfl]
    simp only [numZ_by8]
    rw [Int.emod_eq_of_lt hh.1 hh.2, Int.emod_eq_of_lt hl.1 hl.2, Int.emod_eq_of_lt hh2.1 hh2.2, Int.emod_eq_of_lt hl2.1 hl2.2]
  have hD : rawD xs = (⟨true, h, l, true, h2, l2, pr, ttl, bs⟩, 0) := by
    unfold rawD
    rw [if_neg (by omega), g0, if_neg (by decide), if_pos (by decide), hraw]
  unfold decZ
  rw [hD]
  have hok : PK.ok ⟨true, h, l, true, h2, l2, pr, ttl, bs⟩ = true := by
    have a3 : (bs.length : Int) ≤ 1460 := by omega
    simp [PK.ok, validP, aok, headZ, hpr.1, hpr.2, ht.1, ht.2, a3]
  simp [hok]
end Go.Proofs.Ytojapodjlpffdaa
