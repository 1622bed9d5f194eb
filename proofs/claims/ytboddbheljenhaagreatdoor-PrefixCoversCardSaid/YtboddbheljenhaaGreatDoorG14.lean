/-
  Layer 2: in how many leading bits two addresses agree. No walk.
-/
import Derived.Test.YtboddbheljenhaaGreatDoorG13
import Derived.Lib.ItoaNum
namespace Go.Proofs.YtboddbheljenhaaGreatDoor
open Go.RowKit
theorem xor_zero_iff (a b : Nat) : a ^^^ b = 0 ↔ a = b := by
  constructor
  · intro h
    have : a ^^^ (a ^^^ b) = a ^^^ 0 := by rw [h]
    rw [← Nat.xor_assoc, Nat.xor_self, Nat.zero_xor, Nat.xor_zero] at this
    exact this.symm
  · rintro rfl; exact Nat.xor_self _
theorem bl_iff (z j : Nat) (hz : z < 2 ^ 64) (hj : j ≤ 64) : Lib.bitLen z ≤ j ↔ z < 2 ^ j := by
  constructor
  · intro h
    by_cases c : z = 0
    · subst c; exact Nat.two_pow_pos j
    · exact Nat.lt_of_lt_of_le (Lib.bitLenAux_bounds 64 z hz c).2.2 (Nat.pow_le_pow_right (by decide) h)
  · exact Lib.bitLen_le z j hj
theorem cut_xor (X Y j : Nat) : X - X % 2 ^ j = Y - Y % 2 ^ j ↔ X ^^^ Y < 2 ^ j := by
  have hp := Nat.two_pow_pos j
  rw [← Nat.div_eq_zero_iff_lt hp, Nat.xor_div_two_pow, xor_zero_iff]
  have hX := Nat.div_add_mod X (2 ^ j)
  have hY := Nat.div_add_mod Y (2 ^ j)
  constructor
  · intro h
    exact Nat.eq_of_mul_eq_mul_left hp (by omega)
  · intro h
    rw [h] at hX
    omega
theorem cut_bl {x y : Int} {j : Nat} (h0 : 0 ≤ x) (h1 : x < 18446744073709551616) (g0 : 0 ≤ y) (g1 : y < 18446744073709551616) (hj : j ≤ 64) : cutZ x j = cutZ y j ↔ Lib.bitLen (x.toNat ^^^ y.toNat) ≤ j := by
  obtain ⟨X, rfl⟩ := Int.eq_ofNat_of_zero_le h0
  obtain ⟨Y, rfl⟩ := Int.eq_ofNat_of_zero_le g0
  have e64 : (2 : Nat) ^ 64 = 18446744073709551616 := by decide
  have hx : X ^^^ Y < 2 ^ 64 := Nat.xor_lt_two_pow (by omega) (by omega)
  rw [cutZ_nat, cutZ_nat, Int.toNat_natCast, Int.toNat_natCast, bl_iff _ _ hx hj, ← cut_xor]
  omega
/-- The leading bits in which two addresses of a family agree. -/
def agN (v : Bool) (hi lo hi' lo' : Int) : Nat :=
  if v = true then (if hi = hi' then 128 - Lib.bitLen (lo.toNat ^^^ lo'.toNat) else 64 - Lib.bitLen (hi.toNat ^^^ hi'.toNat)) else 32 - Lib.bitLen (lo.toNat ^^^ lo'.toNat)
theorem agN_le (v : Bool) (hi lo hi' lo' : Int) : agN v hi lo hi' lo' ≤ wiN v := by
  unfold agN wiN
  cases v
  · simp
  · simp; split <;> omega
theorem ag_iff {v : Bool} {hi lo hi' lo' : Int} {k : Nat} (a : AOk v hi lo) (b : AOk v hi' lo') (hk : k ≤ wiN v) : k ≤ agN v hi lo hi' lo' ↔ fstH v hi k = fstH v hi' k ∧ fstL v lo k = fstL v lo' k := by
  obtain ⟨a0, a1, a2, a3, a4⟩ := a
  obtain ⟨b0, b1, b2, b3, b4⟩ := b
  have e64 : (2 : Int) ^ 64 = 18446744073709551616 := by decide
  unfold fstH fstL
  rw [cl_of hk, cut_bl a0 a1 b0 b1 (khN_le _ _), cut_bl a2 a3 b2 b3 (klN_le _ _)]
  have l64 : ∀ x y : Int, 0 ≤ x → x < 18446744073709551616 → 0 ≤ y → y < 18446744073709551616 → Lib.bitLen (x.toNat ^^^ y.toNat) ≤ 64 := fun x y h1 h2 h3 h4 =>
    Lib.bitLen_le _ 64 (Nat.le_refl _) (Nat.xor_lt_two_pow (by omega) (by omega))
  have z0 : ∀ x : Int, Lib.bitLen (x.toNat ^^^ x.toNat) = 0 := fun x => by rw [Nat.xor_self]; rfl
  cases v with
  | false =>
    obtain ⟨rfl, a5⟩ := a4 rfl
    obtain ⟨rfl, b5⟩ := b4 rfl
    have hl : Lib.bitLen (lo.toNat ^^^ lo'.toNat) ≤ 32 := Lib.bitLen_le _ 32 (by decide) (Nat.xor_lt_two_pow (by omega) (by omega))
    have hk' : k ≤ 32 := hk
    rw [z0]
    unfold agN khN klN
    rw [if_neg (by decide), if_neg (by decide), if_neg (by decide)]
    omega
  | true =>
    have hl := l64 lo lo' a2 a3 b2 b3
    have hh := l64 hi hi' a0 a1 b0 b1
    have hk' : k ≤ 128 := hk
    unfold agN khN klN
    rw [if_pos rfl, if_pos rfl, if_pos rfl]
    by_cases c : hi = hi'
    · subst c
      rw [if_pos rfl, z0]
      omega
    · rw [if_neg c]
      have hp : 1 ≤ Lib.bitLen (hi.toNat ^^^ hi'.toNat) := by
        have hne : hi.toNat ^^^ hi'.toNat ≠ 0 := fun h => c (by have := (xor_zero_iff _ _).1 h; omega)
        exact (Lib.bitLenAux_bounds 64 _ (Nat.xor_lt_two_pow (by omega) (by omega)) hne).1
      omega
end Go.Proofs.YtboddbheljenhaaGreatDoor
namespace Go.Proofs.YtboddbheljenhaaGreatDoor
open Go.RowKit
theorem bool_no {b : Bool} (h : b = true → False) : b = false := by
  cases b
  · rfl
  · exact (h rfl).elim
theorem inQ_nA {v : Bool} {hi lo : Int} {N : Nat} (p : POk v hi lo N) {hx lx : Int} (ax : AOk v hx lx) : inQ v hi lo N v hx lx = true ↔ nA hi lo ≤ nA hx lx ∧ nA hx lx ≤ nA hi lo + (2 ^ (wiN v - N) - 1) := by
  have l := lst_nA p.a p.n
  rw [p.h, p.l] at l
  rw [inQ_iff p, ← l, ← in_nA p.a p.n p.h p.l ax]
  have af := aok_first (N : Int) ax
  constructor
  · rintro ⟨-, e1, e2⟩
    rw [e1, e2]
  · intro h
    exact (eqA_key af p.a).2 ((nA_key _ _ _ _ _).2.2 h)
theorem pow_half {k : Nat} (h : 0 < k) : (2 : Int) ^ k = 2 * 2 ^ (k - 1) := by
  obtain ⟨j, rfl⟩ : ∃ j, k = j + 1 := ⟨k - 1, by omega⟩
  rw [Int.pow_succ, show j + 1 - 1 = j by omega]
  omega
theorem half_one {v : Bool} {hi lo : Int} {N : Nat} (p : POk v hi lo N) (h : N < wiN v) : POk v hi lo (N + 1) := by
  obtain ⟨e1, e2⟩ := fst_long p.a.hi0 p.a.lo0 (Nat.le_succ N) h p.h p.l
  exact ⟨p.a, h, e1, e2⟩
theorem half_two {v : Bool} {hi lo : Int} {N : Nat} (p : POk v hi lo N) (h : N < wiN v) : POk v (fstH v (lstH v hi N) ((N + 1 : Nat) : Int)) (fstL v (lstL v lo N) ((N + 1 : Nat) : Int)) (N + 1) :=
  ⟨aok_first _ (aok_last p.a p.n), h, fstH_idem _ _ _, fstL_idem _ _ _⟩
/-- What Contains answers of the halves of a prefix. -/
theorem half_in {v : Bool} {hi lo y1 y2 : Int} {N : Nat} (p : POk v hi lo N) (h : N < wiN v) (q : POk v y1 y2 (N + 1)) (e : nA y1 y2 = nA hi lo + 2 ^ (wiN v - N - 1)) :
    inQ v hi lo ((N + 1 : Nat) : Int) v y1 y2 = false ∧ inQ v y1 y2 ((N + 1 : Nat) : Int) v hi lo = false ∧ inQ v hi lo N v y1 y2 = true ∧ ∀ {vx : Bool} {hx lx : Int}, AOk vx hx lx → inQ v hi lo N vx hx lx = (inQ v hi lo ((N + 1 : Nat) : Int) vx hx lx || inQ v y1 y2 ((N + 1 : Nat) : Int) vx hx lx) := by
  have p1 := half_one p h
  have h2 := pow_half (k := wiN v - N) (by omega)
  have hp := two_pos (wiN v - N - 1)
  have hs : wiN v - (N + 1) = wiN v - N - 1 := by omega
  have a1 := inQ_nA p1 q.a
  have a2 := inQ_nA q p.a
  have a3 := inQ_nA p q.a
  rw [hs] at a1 a2
  rw [h2] at a3
  refine ⟨bool_no fun t => ?_, bool_no fun t => ?_, a3.2 ?_, fun {vx hx lx} ax => ?_⟩
  · have := a1.1 t; omega
  · have := a2.1 t; omega
  · omega
  · by_cases hv : vx = v
    · subst hv
      have b1 := inQ_nA p ax
      have b2 := inQ_nA p1 ax
      have b3 := inQ_nA q ax
      rw [h2] at b1
      rw [hs] at b2 b3
      rw [Bool.eq_iff_iff, Bool.or_eq_true, b1, b2, b3]
      omega
    · have f : ∀ (c d : Int) (M : Nat), inQ v c d M vx hx lx = false := fun c d M => by
        unfold inQ
        rw [show (vx == v) = false by simpa using hv, Bool.false_and]
      rw [f, f, f]
      rfl
theorem lst_POk {v : Bool} {hi lo : Int} {N : Nat} (p : POk v hi lo N) : nA (lstH v hi N) (lstL v lo N) = nA hi lo + (2 ^ (wiN v - N) - 1) := by
  have l := lst_nA p.a p.n
  rw [p.h, p.l] at l
  exact l
theorem nA_eq {v : Bool} {hi lo hi' lo' : Int} (a : AOk v hi lo) (b : AOk v hi' lo') (h : nA hi lo = nA hi' lo') : hi = hi' ∧ lo = lo' := ((eqA_key a b).2 ((nA_key _ _ _ _ _).2.2 h)).2
/-- A prefix as long as can be: its last address is its own. -/
theorem last_own {v : Bool} {hi lo : Int} {N : Nat} (p : POk v hi lo N) (h : N = wiN v) : lstH v hi N = hi ∧ lstL v lo N = lo :=
  nA_eq (aok_last p.a p.n) p.a (by rw [lst_POk p, h, Nat.sub_self]; simp)
/-- The order of the halves, their last addresses, and what follows the first half. -/
theorem half_last {v : Bool} {hi lo y1 y2 : Int} {N : Nat} (p : POk v hi lo N) (h : N < wiN v) (q : POk v y1 y2 (N + 1)) (e : nA y1 y2 = nA hi lo + 2 ^ (wiN v - N - 1)) :
    cmpA v hi lo v y1 y2 = -1 ∧ (lstH v y1 ((N + 1 : Nat) : Int) = lstH v hi N ∧ lstL v y2 ((N + 1 : Nat) : Int) = lstL v lo N) ∧ nextA v (lstH v hi ((N + 1 : Nat) : Int)) (lstL v lo ((N + 1 : Nat) : Int)) = (v, y1, y2, true) := by
  have p1 := half_one p h
  have h2 := pow_half (k := wiN v - N) (by omega)
  have hp := two_pos (wiN v - N - 1)
  have hs : wiN v - (N + 1) = wiN v - N - 1 := by omega
  have l0 := lst_POk p
  have l1 := lst_POk p1
  have l2 := lst_POk q
  rw [hs] at l1 l2
  rw [h2] at l0
  have al1 := aok_last p1.a p1.n
  refine ⟨?_, nA_eq (aok_last q.a q.n) (aok_last p.a p.n) (by omega), ?_⟩
  · rcases cmpA_key p.a q.a with ⟨c, o⟩ | ⟨c, o⟩ | ⟨c, o⟩
    · exact c
    · have := (nA_key v hi lo y1 y2).2.1 o; omega
    · have := (nA_key v y1 y2 hi lo).1.1 o; omega
  · rcases nextA_cases al1 with ⟨-, g⟩ | ⟨hn, ln, c, an, hsum⟩
    · exfalso
      have b := q.a
      obtain ⟨b0, b1, b2, b3, b4⟩ := b
      unfold nA at e l1
      rcases g with ⟨g0, g1, g2⟩ | ⟨g0, g1⟩
      · rw [g1, g2] at l1
        omega
      · have := b4 g0
        have := (p.a.four g0).1
        have := (al1.four g0).1
        omega
    · rw [c]
      obtain ⟨r1, r2⟩ := nA_eq an q.a (by unfold nA at *; omega)
      rw [r1, r2]
end Go.Proofs.YtboddbheljenhaaGreatDoor
