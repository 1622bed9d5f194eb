/-
  Layer 4: what Decode answers to the bytes of a frame: plain mathematics.
-/
import Derived.Test.YtklolalgbcgdiaaFrR4
namespace Go.Proofs.Ytklolalgbcgdiaa
open Go.RowKit
theorem dec_encF (f : FK) (hok : f.ok = true) : decF (encF f) = (f, 0) := by
  obtain ⟨d0, d1, d2, d3, d4, d5, s0, s1, s2, s3, s4, s5, vl, ty, data⟩ := f
  have hk := hok
  simp only [FK.ok, okT, Bool.and_eq_true, decide_eq_true_eq, bne_iff_ne, ne_eq] at hk
  obtain ⟨⟨⟨v0, v1⟩, ⟨t0, t1⟩, t2⟩, hl⟩ := hk
  have hT : okT ty = true := by simp [okT, t0, t1, t2]
  by_cases hv : vl = 0
  · subst hv
    have hE : encF ⟨d0, d1, d2, d3, d4, d5, s0, s1, s2, s3, s4, s5, 0, ty, data⟩ = d0 :: d1 :: d2 :: d3 :: d4 :: d5 :: s0 :: s1 :: s2 :: s3 :: s4 :: s5 :: (ty / 256 % 256) :: (ty % 256) :: data := by simp [encF, hok, FK.macs]
    rw [hE]
    unfold decF
    have hw : w2 ((ty / 256 % 256) :: (ty % 256) :: data) 0 = ty := by
      show ty / 256 % 256 * 256 + ty % 256 = ty
      omega
    have hd : (d0 :: d1 :: d2 :: d3 :: d4 :: d5 :: s0 :: s1 :: s2 :: s3 :: s4 :: s5 :: (ty / 256 % 256) :: (ty % 256) :: data).drop 12 = (ty / 256 % 256) :: (ty % 256) :: data := rfl
    rw [hd, hw, if_neg (by simp), if_neg t2]
    unfold tailF
    rw [hw, hT, if_neg (by decide), if_neg (by simp; omega)]
    rfl
  · have hE : encF ⟨d0, d1, d2, d3, d4, d5, s0, s1, s2, s3, s4, s5, vl, ty, data⟩ = d0 :: d1 :: d2 :: d3 :: d4 :: d5 :: s0 :: s1 :: s2 :: s3 :: s4 :: s5 :: 129 :: 0 :: (vl / 256 % 256) :: (vl % 256) :: (ty / 256 % 256) :: (ty % 256) :: data := by simp [encF, hok, FK.macs, hv]
    rw [hE]
    unfold decF
    have hd : (d0 :: d1 :: d2 :: d3 :: d4 :: d5 :: s0 :: s1 :: s2 :: s3 :: s4 :: s5 :: 129 :: 0 :: (vl / 256 % 256) :: (vl % 256) :: (ty / 256 % 256) :: (ty % 256) :: data).drop 12 = 129 :: 0 :: (vl / 256 % 256) :: (vl % 256) :: (ty / 256 % 256) :: (ty % 256) :: data := rfl
    have h1 : w2 (129 :: 0 :: (vl / 256 % 256) :: (vl % 256) :: (ty / 256 % 256) :: (ty % 256) :: data) 0 = 33024 := rfl
    have h2 : ((129 : Int) :: 0 :: (vl / 256 % 256) :: (vl % 256) :: (ty / 256 % 256) :: (ty % 256) :: data).drop 2 = (vl / 256 % 256) :: (vl % 256) :: (ty / 256 % 256) :: (ty % 256) :: data := rfl
    have h3 : w2 ((vl / 256 % 256) :: (vl % 256) :: (ty / 256 % 256) :: (ty % 256) :: data) 0 % 4096 = vl := by
      show (vl / 256 % 256 * 256 + vl % 256) % 4096 = vl
      omega
    have h4 : ((129 : Int) :: 0 :: (vl / 256 % 256) :: (vl % 256) :: (ty / 256 % 256) :: (ty % 256) :: data).drop 4 = (ty / 256 % 256) :: (ty % 256) :: data := rfl
    have hw : w2 ((ty / 256 % 256) :: (ty % 256) :: data) 0 = ty := by
      show ty / 256 % 256 * 256 + ty % 256 = ty
      omega
    rw [hd, h1, h2, h3, h4, if_neg (by simp), if_pos rfl, if_neg (by simp), if_neg (by omega)]
    unfold tailF
    rw [hw, hT, if_neg (by decide), if_neg (by simp; omega)]
    rfl
theorem tailF_ok {xs R : List Int} {v : Int} (h : (tailF xs R v).2 = 0) : okT (w2 R 0) = true ∧ R.length ≤ 1502 ∧ tailF xs R v = (mkF xs v (w2 R 0) (R.drop 2), 0) := by
  unfold tailF at h ⊢
  by_cases h1 : okT (w2 R 0) = false
  · rw [if_pos h1] at h; cases h
  · rw [if_neg h1] at h ⊢
    by_cases h2 : R.length > 1502
    · rw [if_pos h2] at h; cases h
    · rw [if_neg h2]
      exact ⟨by simpa using h1, by omega, rfl⟩
/-- What is known of bytes that are read. -/
theorem decF_cases {xs : List Int} (h : (decF xs).2 = 0) : 14 ≤ xs.length ∧
    ((w2 (xs.drop 12) 0 ≠ 33024 ∧ okT (w2 (xs.drop 12) 0) = true ∧ (xs.drop 12).length ≤ 1502 ∧ decF xs = (mkF xs 0 (w2 (xs.drop 12) 0) ((xs.drop 12).drop 2), 0)) ∨
     (w2 (xs.drop 12) 0 = 33024 ∧ 18 ≤ xs.length ∧ w2 ((xs.drop 12).drop 2) 0 % 4096 ≠ 0 ∧ w2 ((xs.drop 12).drop 2) 0 % 4096 ≤ 4094 ∧ okT (w2 ((xs.drop 12).drop 4) 0) = true ∧ ((xs.drop 12).drop 4).length ≤ 1502 ∧
      decF xs = (mkF xs (w2 ((xs.drop 12).drop 2) 0 % 4096) (w2 ((xs.drop 12).drop 4) 0) (((xs.drop 12).drop 4).drop 2), 0))) := by
  by_cases h0 : xs.length < 14
  · rw [show decF xs = (zFK, 4) from by unfold decF; rw [if_pos h0]] at h; cases h
  refine ⟨by omega, ?_⟩
  by_cases h1 : w2 (xs.drop 12) 0 = 33024
  · right
    by_cases h2 : xs.length < 18
    · rw [show decF xs = (zFK, 4) from by unfold decF; rw [if_neg h0, if_pos h1, if_pos h2]] at h; cases h
    by_cases h3 : w2 ((xs.drop 12).drop 2) 0 % 4096 = 0 ∨ 4094 < w2 ((xs.drop 12).drop 2) 0 % 4096
    · rw [show decF xs = (zFK, 5) from by unfold decF; rw [if_neg h0, if_pos h1, if_neg h2, if_pos h3]] at h; cases h
    have e : decF xs = tailF xs ((xs.drop 12).drop 4) (w2 ((xs.drop 12).drop 2) 0 % 4096) := by unfold decF; rw [if_neg h0, if_pos h1, if_neg h2, if_neg h3]
    rw [e] at h
    obtain ⟨g1, g2, g3⟩ := tailF_ok h
    exact ⟨h1, by omega, by omega, by omega, g1, g2, e.trans g3⟩
  · left
    have e : decF xs = tailF xs (xs.drop 12) 0 := by unfold decF; rw [if_neg h0, if_neg h1]
    rw [e] at h
    obtain ⟨g1, g2, g3⟩ := tailF_ok h
    exact ⟨h1, g1, g2, e.trans g3⟩
theorem cons_of {n : Nat} {xs : List Int} (h : n + 1 ≤ xs.length) : ∃ a R, xs = a :: R ∧ n ≤ R.length := by
  cases xs with
  | nil => simp at h
  | cons a R => exact ⟨a, R, rfl, by simpa using h⟩
set_option maxRecDepth 100000 in
/-- The bytes of a frame that was read are the bytes read, but for the high half of the fifteenth where there is a tag. -/
theorem enc_back {xs : List Int} (hb : Bytes xs) (h : (decF xs).2 = 0) : (decF xs).1.ok = true ∧ (encF (decF xs).1 = xs ∨ ((decF xs).1.vl ≠ 0 ∧ 14 < xs.length ∧ encF (decF xs).1 = xs.set 14 (xs.getD 14 0 % 16))) := by
  obtain ⟨hl, hc⟩ := decF_cases h
  rcases hc with ⟨c1, c2, c3, c4⟩ | ⟨c1, c0, c2, c3, c4, c5, c6⟩
  · rw [c4]
    clear c4 h
    obtain ⟨a0, x0, rfl, l0⟩ := cons_of hl
    obtain ⟨a1, x1, rfl, l1⟩ := cons_of l0
    obtain ⟨a2, x2, rfl, l2⟩ := cons_of l1
    obtain ⟨a3, x3, rfl, l3⟩ := cons_of l2
    obtain ⟨a4, x4, rfl, l4⟩ := cons_of l3
    obtain ⟨a5, x5, rfl, l5⟩ := cons_of l4
    obtain ⟨a6, x6, rfl, l6⟩ := cons_of l5
    obtain ⟨a7, x7, rfl, l7⟩ := cons_of l6
    obtain ⟨a8, x8, rfl, l8⟩ := cons_of l7
    obtain ⟨a9, x9, rfl, l9⟩ := cons_of l8
    obtain ⟨a10, x10, rfl, l10⟩ := cons_of l9
    obtain ⟨a11, x11, rfl, l11⟩ := cons_of l10
    obtain ⟨a12, x12, rfl, l12⟩ := cons_of l11
    obtain ⟨a13, r, rfl, l13⟩ := cons_of l12
    change okT (a12 * 256 + a13) = true at c2
    show (mkF (a0 :: a1 :: a2 :: a3 :: a4 :: a5 :: a6 :: a7 :: a8 :: a9 :: a10 :: a11 :: a12 :: a13 :: r) 0 (a12 * 256 + a13) r).ok = true ∧ (encF (mkF (a0 :: a1 :: a2 :: a3 :: a4 :: a5 :: a6 :: a7 :: a8 :: a9 :: a10 :: a11 :: a12 :: a13 :: r) 0 (a12 * 256 + a13) r) = _ ∨ _)
    have b12 := hb a12 (by simp)
    have b13 := hb a13 (by simp)
    have hlr : r.length ≤ 1500 := by simpa using c3
    have hok : (mkF (a0 :: a1 :: a2 :: a3 :: a4 :: a5 :: a6 :: a7 :: a8 :: a9 :: a10 :: a11 :: a12 :: a13 :: r) 0 (a12 * 256 + a13) r).ok = true := by
      unfold FK.ok
      show (decide ((0 : Int) ≤ 0) && decide ((0 : Int) ≤ 4094) && okT (a12 * 256 + a13) && decide ((r.length : Int) ≤ 1500)) = true
      rw [c2, decide_eq_true (show (r.length : Int) ≤ 1500 by omega)]; rfl
    refine ⟨hok, .inl ?_⟩
    unfold encF
    rw [if_pos hok]
    have e1 : (a12 * 256 + a13) / 256 % 256 = a12 := by omega
    have e2 : (a12 * 256 + a13) % 256 = a13 := by omega
    show [a0, a1, a2, a3, a4, a5, a6, a7, a8, a9, a10, a11] ++ [] ++ [(a12 * 256 + a13) / 256 % 256, (a12 * 256 + a13) % 256] ++ r = _
    rw [e1, e2]; rfl
  · rw [c6]
    clear c6 h hl
    have hl := c0
    obtain ⟨a0, x0, rfl, l0⟩ := cons_of hl
    obtain ⟨a1, x1, rfl, l1⟩ := cons_of l0
    obtain ⟨a2, x2, rfl, l2⟩ := cons_of l1
    obtain ⟨a3, x3, rfl, l3⟩ := cons_of l2
    obtain ⟨a4, x4, rfl, l4⟩ := cons_of l3
    obtain ⟨a5, x5, rfl, l5⟩ := cons_of l4
    obtain ⟨a6, x6, rfl, l6⟩ := cons_of l5
    obtain ⟨a7, x7, rfl, l7⟩ := cons_of l6
    obtain ⟨a8, x8, rfl, l8⟩ := cons_of l7
    obtain ⟨a9, x9, rfl, l9⟩ := cons_of l8
    obtain ⟨a10, x10, rfl, l10⟩ := cons_of l9
    obtain ⟨a11, x11, rfl, l11⟩ := cons_of l10
    obtain ⟨a12, x12, rfl, l12⟩ := cons_of l11
    obtain ⟨a13, x13, rfl, l13⟩ := cons_of l12
    obtain ⟨a14, x14, rfl, l14⟩ := cons_of l13
    obtain ⟨a15, x15, rfl, l15⟩ := cons_of l14
    obtain ⟨a16, x16, rfl, l16⟩ := cons_of l15
    obtain ⟨a17, r, rfl, l17⟩ := cons_of l16
    change a12 * 256 + a13 = 33024 at c1
    change (a14 * 256 + a15) % 4096 ≠ 0 at c2
    change (a14 * 256 + a15) % 4096 ≤ 4094 at c3
    change okT (a16 * 256 + a17) = true at c4
    show (mkF (a0 :: a1 :: a2 :: a3 :: a4 :: a5 :: a6 :: a7 :: a8 :: a9 :: a10 :: a11 :: a12 :: a13 :: a14 :: a15 :: a16 :: a17 :: r) ((a14 * 256 + a15) % 4096) (a16 * 256 + a17) r).ok = true ∧ (encF (mkF (a0 :: a1 :: a2 :: a3 :: a4 :: a5 :: a6 :: a7 :: a8 :: a9 :: a10 :: a11 :: a12 :: a13 :: a14 :: a15 :: a16 :: a17 :: r) ((a14 * 256 + a15) % 4096) (a16 * 256 + a17) r) = _ ∨ ((a14 * 256 + a15) % 4096 ≠ 0 ∧ _ ∧ encF (mkF (a0 :: a1 :: a2 :: a3 :: a4 :: a5 :: a6 :: a7 :: a8 :: a9 :: a10 :: a11 :: a12 :: a13 :: a14 :: a15 :: a16 :: a17 :: r) ((a14 * 256 + a15) % 4096) (a16 * 256 + a17) r) = _))
    have b12 := hb a12 (by simp)
    have b13 := hb a13 (by simp)
    have b14 := hb a14 (by simp)
    have b15 := hb a15 (by simp)
    have b16 := hb a16 (by simp)
    have b17 := hb a17 (by simp)
    have hlr : r.length ≤ 1500 := by simpa using c5
    generalize hv : (a14 * 256 + a15) % 4096 = vl at c2 c3 ⊢
    have hok : (mkF (a0 :: a1 :: a2 :: a3 :: a4 :: a5 :: a6 :: a7 :: a8 :: a9 :: a10 :: a11 :: a12 :: a13 :: a14 :: a15 :: a16 :: a17 :: r) vl (a16 * 256 + a17) r).ok = true := by
      unfold FK.ok
      show (decide (0 ≤ vl) && decide (vl ≤ 4094) && okT (a16 * 256 + a17) && decide ((r.length : Int) ≤ 1500)) = true
      rw [c4, decide_eq_true (show (r.length : Int) ≤ 1500 by omega), decide_eq_true (show 0 ≤ vl by omega), decide_eq_true c3]; rfl
    refine ⟨hok, .inr ⟨c2, by simp, ?_⟩⟩
    unfold encF
    rw [if_pos hok]
    have e1 : (a16 * 256 + a17) / 256 % 256 = a16 := by omega
    have e2 : (a16 * 256 + a17) % 256 = a17 := by omega
    have e3 : vl / 256 % 256 = a14 % 16 := by omega
    have e4 : vl % 256 = a15 := by omega
    obtain rfl : a12 = 129 := by omega
    obtain rfl : a13 = 0 := by omega
    show [a0, a1, a2, a3, a4, a5, a6, a7, a8, a9, a10, a11] ++ (if vl = 0 then [] else [129, 0, vl / 256 % 256, vl % 256]) ++ [(a16 * 256 + a17) / 256 % 256, (a16 * 256 + a17) % 256] ++ r = _
    rw [if_neg c2, e1, e2, e3, e4]; rfl
end Go.Proofs.Ytklolalgbcgdiaa
