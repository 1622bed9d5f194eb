/-
  Layer 7: what Decode answers to a message with further options: plain mathematics.
-/
import Derived.Test.YtogchaijglbjaaaNb7g
namespace Go.Proofs.Ytogchaijglbjaaa
open Go.RowKit
set_option maxHeartbeats 8000000 in
set_option maxRecDepth 100000 in
theorem b3x_at {n : NK} (hok : n.ok = true) (E : List Int) (a b : Int) : (((n.b3 ++ E).set 2 a).set 3 b).getD 0 0 = n.kind ∧ (((n.b3 ++ E).set 2 a).set 3 b).getD 1 0 = 0 ∧ (n.b3 ++ E).getD 2 0 = 0 ∧ (n.b3 ++ E).getD 3 0 = 0 ∧ (((n.b3 ++ E).set 2 a).set 3 b).getD 4 0 = n.flags * 32 ∧
    (hasT n.kind = true → ((((n.b3 ++ E).set 2 a).set 3 b).drop 8).take 8 = by8 n.th 0 ∧ ((((n.b3 ++ E).set 2 a).set 3 b).drop 16).take 8 = by8 n.tl 0) ∧ (((n.b3 ++ E).set 2 a).set 3 b).drop (fixN n.kind) = (bif n.has then [optZ n.kind, 1] ++ n.link else []) ++ E := by
  obtain ⟨h1, h2, -⟩ := NK.ok_facts hok
  clear hok
  obtain ⟨kind, flags, tv, th, tl, has, l0, l1, l2, l3, l4, l5⟩ := n
  dsimp only at h1 h2 ⊢
  rcases kind_cases h1 h2 with rfl | rfl | rfl | rfl | rfl <;> cases has <;> exact ⟨rfl, rfl, rfl, rfl, rfl, (fun e => by first | exact ⟨rfl, rfl⟩ | cases e), rfl⟩
/-- The packet of a message with further options, read. -/
theorem dec_more {n : NK} (hok : n.ok = true) (hlb : Bytes n.link) (ht : 0 ≤ n.th ∧ n.th < 18446744073709551616) (htl : 0 ≤ n.tl ∧ n.tl < 18446744073709551616) (h l h2 l2 : Int) (E : List Int) (hE : Bytes E) (hEl : E.length ≤ 100) (has : Bool) (m : M6)
    (hlk : linkZ (optZ n.kind) ((bif n.has then [optZ n.kind, 1] ++ n.link else []) ++ E).length ((bif n.has then [optZ n.kind, 1] ++ n.link else []) ++ E) false z6 = (m, has, true)) (hno : ¬ (n.kind = 135 ∧ (h = 0 ∧ l = 0))) :
    decN ⟨true, h, l, true, h2, l2, 58, 255, sgn h l h2 l2 (n.b3 ++ E)⟩ = (⟨n.kind, n.flags, n.tv, n.th, n.tl, has, m.a0, m.a1, m.a2, m.a3, m.a4, m.a5⟩, 0) := by
  obtain ⟨q1, q2, q3, q4, q5, q6, q7, q8⟩ := NK.ok_facts hok
  have hb3 := NK.b3_bytes hok hlb
  have hb : Bytes (n.b3 ++ E) := bytes_app hb3 hE
  have hfc := fixN_cases n.kind
  have hlen3 := n.b3_length
  have hl8 : 8 ≤ (n.b3 ++ E).length ∧ (n.b3 ++ E).length ≤ 148 ∧ fixN n.kind ≤ (n.b3 ++ E).length := by
    rw [List.length_append, hlen3]
    cases n.has <;> simp <;> omega
  obtain ⟨e0, e1, e2, e3, e4, e5, e6⟩ := b3x_at hok E (sumOf (chkL h l h2 l2 58 (n.b3 ++ E)) / 256) (sumOf (chkL h l h2 l2 58 (n.b3 ++ E)) % 256)
  have hout := out_signed h l h2 l2 (n.b3 ++ E) hb (by omega) (by omega) e2 e3
  obtain ⟨p, hp⟩ : ∃ p : PK, (⟨true, h, l, true, h2, l2, 58, 255, sgn h l h2 l2 (n.b3 ++ E)⟩ : PK) = p := ⟨_, rfl⟩
  have hD : p.data = ((n.b3 ++ E).set 2 (sumOf (chkL h l h2 l2 58 (n.b3 ++ E)) / 256)).set 3 (sumOf (chkL h l h2 l2 58 (n.b3 ++ E)) % 256) := by rw [← hp]; rfl
  have hph : p.h = h := by rw [← hp]
  have hpl : p.l = l := by rw [← hp]
  rw [hp] at hout ⊢
  unfold decN
  rw [if_neg (by simpa using hout), hD, e0, e1, if_neg (by simp; omega)]
  rw [if_neg (by simp; omega), e4, e6]
  have hfl : flZ n.kind (n.flags * 32) = n.flags := by
    unfold flZ
    split
    · omega
    · omega
  rw [hfl, hlk]
  have htail : ∀ tv th tl, tailN p n.kind n.flags tv th tl (m, has, true) = (⟨n.kind, n.flags, tv, th, tl, has, m.a0, m.a1, m.a2, m.a3, m.a4, m.a5⟩, 0) := fun tv th tl => by
    unfold tailN
    rw [if_neg]
    rintro (h | ⟨h1, h2, -⟩)
    · cases h
    · rw [hph, hpl] at h2
      exact hno ⟨h1, h2⟩
  rw [htail, htail]
  cases hT : hasT n.kind with
  | true =>
    obtain ⟨f1, f2⟩ := e5 hT
    obtain ⟨g1, g2⟩ := q6 hT
    rw [if_pos rfl, f1, f2, numZ_by8, numZ_by8, Int.emod_eq_of_lt ht.1 ht.2, Int.emod_eq_of_lt htl.1 htl.2, if_neg (by simp [g2]), ← g1]
  | false =>
    obtain ⟨g1, g2, g3⟩ := q7 hT
    rw [if_neg (by simp), ← g1, g2, g3]
end Go.Proofs.Ytogchaijglbjaaa
