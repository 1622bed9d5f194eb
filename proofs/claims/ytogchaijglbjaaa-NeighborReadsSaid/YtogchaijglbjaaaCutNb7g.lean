/-
  Layer 7: what Decode answers to the packet of a message: plain mathematics.
-/
import Derived.Test.YtogchaijglbjaaaCutNb7f
namespace Go.Proofs.Ytogchaijglbjaaa
open Go.RowKit
theorem chkL_put (h l h2 l2 p : Int) (xs : List Int) (a b : Int) : chkL h l h2 l2 p ((xs.set 2 a).set 3 b) = put2 (chkL h l h2 l2 p xs) 42 a b := by
  unfold chkL put2
  have hl : ((a16 h l ++ a16 h2 l2) ++ mid8 (xs.length : Int) p).length = 40 := by simp [a16, mid8]
  have e : ((xs.set 2 a).set 3 b).length = xs.length := by simp
  rw [e]
  rw [List.set_append_right _ _ (by omega), List.set_append_right _ _ (by omega), hl]
theorem sum_signed (h l h2 l2 : Int) (xs : List Int) (hb : Bytes xs) (hl : 4 ≤ xs.length) (h2' : xs.getD 2 0 = 0) (h3 : xs.getD 3 0 = 0) : sumOf (chkL h l h2 l2 58 (sgn h l h2 l2 xs)) = 0 := by
  unfold sgn
  rw [chkL_put]
  have hlen := chkL_length h l h2 l2 58 xs
  have hw := words_put2 21 (chkL h l h2 l2 58 xs) (sumOf (chkL h l h2 l2 58 xs) / 256) (sumOf (chkL h l h2 l2 58 xs) % 256) (by omega)
  have hat : ∀ i, (chkL h l h2 l2 58 xs).getD (40 + i) 0 = xs.getD i 0 := fun i => by
    unfold chkL
    have e : ((a16 h l ++ a16 h2 l2) ++ mid8 (xs.length : Int) 58).length = 40 := by simp [a16, mid8]
    rw [List.getD_eq_getElem?_getD, List.getElem?_append_right (by omega), e, List.getD_eq_getElem?_getD]
    congr 2; omega
  have e1 : (chkL h l h2 l2 58 xs).getD (2 * 21) 0 = 0 := (hat 2).trans h2'
  have e2 : (chkL h l h2 l2 58 xs).getD (2 * 21 + 1) 0 = 0 := (hat 3).trans h3
  rw [e1, e2] at hw
  have hf := fold_bd (words (chkL h l h2 l2 58 xs))
  have hw0 := (words_bd _ (chkL_bytes h l h2 l2 58 hb)).1
  have hS : sumOf (chkL h l h2 l2 58 xs) = 65535 - fold (words (chkL h l h2 l2 58 xs)) := rfl
  have e3 : words (put2 (chkL h l h2 l2 58 xs) 42 (sumOf (chkL h l h2 l2 58 xs) / 256) (sumOf (chkL h l h2 l2 58 xs) % 256)) = words (chkL h l h2 l2 58 xs) + (65535 - fold (words (chkL h l h2 l2 58 xs))) := by
    rw [show (42 : Nat) = 2 * 21 from rfl, hw]; omega
  show 65535 - fold (words _) = 0
  rw [e3]
  exact self _ hw0
theorem sgn_length (h l h2 l2 : Int) (xs : List Int) : (sgn h l h2 l2 xs).length = xs.length := by simp [sgn]
theorem sgn_bytes (h l h2 l2 : Int) {xs : List Int} (hb : Bytes xs) : Bytes (sgn h l h2 l2 xs) := by
  have := sumOf_range (chkL h l h2 l2 58 xs)
  exact set_bytes _ (set_bytes _ hb (by omega)) (by omega)
theorem out_signed (h l h2 l2 : Int) (xs : List Int) (hb : Bytes xs) (hl : 4 ≤ xs.length) (hl2 : xs.length ≤ 1460) (h2' : xs.getD 2 0 = 0) (h3 : xs.getD 3 0 = 0) : outZ ⟨true, h, l, true, h2, l2, 58, 255, sgn h l h2 l2 xs⟩ = 0 := by
  unfold outZ
  have hok : PK.ok ⟨true, h, l, true, h2, l2, 58, 255, sgn h l h2 l2 xs⟩ = true := by
    have : ((sgn h l h2 l2 xs).length : Int) ≤ 1500 - 40 := by rw [sgn_length]; omega
    show (true && true && (true == true) && decide ((0 : Int) ≤ 58) && decide ((58 : Int) ≤ 255) && decide ((0 : Int) ≤ 255) && decide ((255 : Int) ≤ 255) && decide (((sgn h l h2 l2 xs).length : Int) ≤ 1500 - 40)) = true
    rw [decide_eq_true this]; rfl
  rw [if_neg (by simp [hok]), if_neg (by simp), if_neg (by simp), if_neg (by simp [sgn_length]; omega), if_neg (by simp [sum_signed h l h2 l2 xs hb hl h2' h3])]
theorem kind_cases {k : Int} (h1 : 133 ≤ k) (h2 : k ≤ 137) : k = 133 ∨ k = 134 ∨ k = 135 ∨ k = 136 ∨ k = 137 := by omega
set_option maxHeartbeats 8000000 in
set_option maxRecDepth 100000 in
theorem b3_at {n : NK} (hok : n.ok = true) (a b : Int) : ((n.b3.set 2 a).set 3 b).getD 0 0 = n.kind ∧ ((n.b3.set 2 a).set 3 b).getD 1 0 = 0 ∧ n.b3.getD 2 0 = 0 ∧ n.b3.getD 3 0 = 0 ∧ ((n.b3.set 2 a).set 3 b).getD 4 0 = n.flags * 32 ∧
    (hasT n.kind = true → (((n.b3.set 2 a).set 3 b).drop 8).take 8 = by8 n.th 0 ∧ (((n.b3.set 2 a).set 3 b).drop 16).take 8 = by8 n.tl 0) ∧ ((n.b3.set 2 a).set 3 b).drop (fixN n.kind) = bif n.has then [optZ n.kind, 1] ++ n.link else [] := by
  obtain ⟨h1, h2, -⟩ := NK.ok_facts hok
  clear hok
  obtain ⟨kind, flags, tv, th, tl, has, l0, l1, l2, l3, l4, l5⟩ := n
  dsimp only at h1 h2 ⊢
  rcases kind_cases h1 h2 with rfl | rfl | rfl | rfl | rfl <;> cases has <;> exact ⟨rfl, rfl, rfl, rfl, rfl, (fun e => by first | exact ⟨rfl, rfl⟩ | cases e), rfl⟩
theorem link_one (num l0 l1 l2 l3 l4 l5 : Int) : linkZ num [num, 1, l0, l1, l2, l3, l4, l5].length [num, 1, l0, l1, l2, l3, l4, l5] false z6 = (⟨l0, l1, l2, l3, l4, l5⟩, true, true) := by
  show linkZ num (7 + 1) _ false z6 = _
  unfold linkZ
  rw [if_neg (by simp), if_neg (by simp [badO]), if_pos (by simp)]
  rfl
theorem dec_enc {n : NK} (hok : n.ok = true) (hlb : Bytes n.link) (ht : 0 ≤ n.th ∧ n.th < 18446744073709551616) (htl : 0 ≤ n.tl ∧ n.tl < 18446744073709551616) (h l h2 l2 : Int) : decN (encN n h l h2 l2) = if n.kind = 135 ∧ (h = 0 ∧ l = 0) ∧ n.has = true then (zNK, 5) else (n, 0) := by
  obtain ⟨q1, q2, q3, q4, q5, q6, q7, q8⟩ := NK.ok_facts hok
  have hb3 := NK.b3_bytes hok hlb
  have hfc := fixN_cases n.kind
  have hlen3 := n.b3_length
  have hl8 : 8 ≤ n.b3.length ∧ n.b3.length ≤ 48 ∧ fixN n.kind ≤ n.b3.length := by
    rw [hlen3]
    cases n.has <;> simp <;> omega
  obtain ⟨e0, e1, e2, e3, e4, e5, e6⟩ := b3_at hok (sumOf (chkL h l h2 l2 58 n.b3) / 256) (sumOf (chkL h l h2 l2 58 n.b3) % 256)
  have hout := out_signed h l h2 l2 n.b3 hb3 (by omega) (by omega) e2 e3
  have hD : (encN n h l h2 l2).data = (n.b3.set 2 (sumOf (chkL h l h2 l2 58 n.b3) / 256)).set 3 (sumOf (chkL h l h2 l2 58 n.b3) % 256) := rfl
  unfold decN
  rw [if_neg (by simpa [encN] using hout), hD, e0, e1, if_neg (by simp; omega)]
  rw [if_neg (by simp; omega), e4, e6]
  have hfl : flZ n.kind (n.flags * 32) = n.flags := by
    unfold flZ
    split
    · omega
    · omega
  have hlk : linkZ (optZ n.kind) (bif n.has then [optZ n.kind, 1] ++ n.link else []).length (bif n.has then [optZ n.kind, 1] ++ n.link else []) false z6 = (⟨n.l0, n.l1, n.l2, n.l3, n.l4, n.l5⟩, n.has, true) := by
    cases hh : n.has
    · have := q8 hh
      simp only [NK.link, List.cons.injEq, and_true] at this
      obtain ⟨z0, z1, z2, z3, z4, z5⟩ := this
      rw [z0, z1, z2, z3, z4, z5]
      rfl
    · exact link_one _ _ _ _ _ _ _
  rw [hfl, hlk]
  have htail : ∀ tv th tl, tailN (encN n h l h2 l2) n.kind n.flags tv th tl (⟨n.l0, n.l1, n.l2, n.l3, n.l4, n.l5⟩, n.has, true) = if n.kind = 135 ∧ (h = 0 ∧ l = 0) ∧ n.has = true then (zNK, 5) else (⟨n.kind, n.flags, tv, th, tl, n.has, n.l0, n.l1, n.l2, n.l3, n.l4, n.l5⟩, 0) := fun tv th tl => by
    unfold tailN encN
    simp only [Bool.true_eq_false, false_or]
  rw [htail, htail]
  cases hT : hasT n.kind with
  | true =>
    obtain ⟨f1, f2⟩ := e5 hT
    obtain ⟨g1, g2⟩ := q6 hT
    rw [if_pos rfl, f1, f2, numZ_by8, numZ_by8, Int.emod_eq_of_lt ht.1 ht.2, Int.emod_eq_of_lt htl.1 htl.2, if_neg (by simp [g2]), ← g1]
  | false =>
    obtain ⟨g1, g2, g3⟩ := q7 hT
    rw [if_neg (by simp), ← g1]
    have : (⟨n.kind, n.flags, n.tv, 0, 0, n.has, n.l0, n.l1, n.l2, n.l3, n.l4, n.l5⟩ : NK) = n := by
      obtain ⟨kind, flags, tv, th, tl, has, l0, l1, l2, l3, l4, l5⟩ := n
      simp only at g2 g3
      subst g2; subst g3; rfl
    rw [this]
end Go.Proofs.Ytogchaijglbjaaa
