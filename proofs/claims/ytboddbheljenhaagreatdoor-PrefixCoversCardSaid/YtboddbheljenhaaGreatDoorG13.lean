/-
  Layer 2: the first and the last address of a prefix, by one number. No walk.
-/
import Derived.Test.YtboddbheljenhaaGreatDoorG08
import Derived.Test.YtboddbheljenhaaGreatDoorRmk
namespace Go.Proofs.YtboddbheljenhaaGreatDoor
open Go.RowKit
/-- An address of a family as one number. -/
def nA (hi lo : Int) : Int := hi * 18446744073709551616 + lo
theorem nA_key (v : Bool) (hi lo hi' lo' : Int) : (keyA v hi lo < keyA v hi' lo' ↔ nA hi lo < nA hi' lo') ∧ (keyA v hi lo = keyA v hi' lo' ↔ nA hi lo = nA hi' lo') := by
  unfold keyA nA
  constructor <;> constructor <;> intro h <;> omega
theorem fst_nA {v : Bool} {hi lo : Int} {N : Nat} (ao : AOk v hi lo) (hN : N ≤ wiN v) : nA (fstH v hi N) (fstL v lo N) = nA hi lo - nA hi lo % 2 ^ (wiN v - N) := by
  obtain ⟨h0, h1, g0, g1, h4⟩ := ao
  obtain ⟨H, rfl⟩ := Int.eq_ofNat_of_zero_le h0
  obtain ⟨L, rfl⟩ := Int.eq_ofNat_of_zero_le g0
  unfold fstH fstL nA
  rw [cl_of hN]
  cases v with
  | true =>
    have hN' : N ≤ 128 := hN
    obtain ⟨e1, e2⟩ := cut_six H L N (by omega) hN'
    rw [← e1, ← e2]
    have hm := Nat.mod_le (H * 18446744073709551616 + L) (2 ^ (128 - N))
    have e : wiN true - N = 128 - N := rfl
    rw [e, ← cast_pow]
    have e3 : (H : Int) * 18446744073709551616 + (L : Int) = ((H * 18446744073709551616 + L : Nat) : Int) := by omega
    rw [e3, ← Int.natCast_emod, ← Int.ofNat_sub hm]
    generalize H * 18446744073709551616 + L - (H * 18446744073709551616 + L) % 2 ^ (128 - N) = y
    omega
  | false =>
    obtain ⟨hz, -⟩ := h4 rfl
    obtain rfl : H = 0 := by omega
    have e : wiN false - N = 32 - N := rfl
    rw [e]
    unfold cutZ klN
    simp
theorem two_split (N : Nat) (h : N < 64) : ((2 : Int) ^ (64 - N) - 1) * 18446744073709551616 + (2 ^ 64 - 1) = 2 ^ (128 - N) - 1 := by
  have e : (2 : Int) ^ (128 - N) = 2 ^ (64 - N) * 2 ^ 64 := by rw [← Int.pow_add]; congr 1; omega
  have e64 : (2 : Int) ^ 64 = 18446744073709551616 := by decide
  rw [e, e64, Int.sub_mul]
  omega
theorem lst_nA {v : Bool} {hi lo : Int} {N : Nat} (ao : AOk v hi lo) (hN : N ≤ wiN v) : nA (lstH v hi N) (lstL v lo N) = nA (fstH v hi N) (fstL v lo N) + (2 ^ (wiN v - N) - 1) := by
  unfold lstH lstL fstH fstL nA filZ cutZ
  rw [cl_of hN]
  cases v with
  | true =>
    have e : wiN true - N = 128 - N := rfl
    have hN' : N ≤ 128 := hN
    rw [e]
    unfold khN klN
    rw [if_pos rfl, if_pos rfl]
    by_cases c : N < 64
    · rw [Nat.min_eq_left (by omega), ← two_split N c]
      omega
    · rw [show 64 - N = 0 by omega, Nat.min_eq_right (by omega)]
      simp
      omega
  | false =>
    have e : wiN false - N = 32 - N := rfl
    rw [e]
    unfold khN klN
    simp
    omega
/-- The last address of a valid prefix is valid. -/
theorem aok_last {v : Bool} {hi lo : Int} {N : Nat} (ao : AOk v hi lo) (hN : N ≤ wiN v) : AOk v (lstH v hi N) (lstL v lo N) := by
  obtain ⟨h0, h1, h2, h3, h4⟩ := ao
  have a := lstH_rng (v := v) (N : Int) h0 h1
  have b := lstL_rng (v := v) (N : Int) h2 h3
  refine ⟨a.1, a.2, b.1, b.2, fun hv => ?_⟩
  obtain ⟨rfl, h5⟩ := h4 hv
  subst hv
  have hN' : N ≤ 32 := hN
  unfold lstH lstL
  rw [cl_of hN]
  refine ⟨by unfold filZ khN; simp, ?_⟩
  have := (filZ_bd (x := lo) (klN false N) 32 h2 (by omega) (by unfold klN; simp)).2
  omega
/-- An address is in a prefix exactly if it stands between its first and its last one. -/
theorem in_nA {v : Bool} {hi lo hx lx : Int} {N : Nat} (ap : AOk v hi lo) (hN : N ≤ wiN v) (eh : fstH v hi N = hi) (el : fstL v lo N = lo) (ax : AOk v hx lx) :
    nA (fstH v hx N) (fstL v lx N) = nA hi lo ↔ nA hi lo ≤ nA hx lx ∧ nA hx lx ≤ nA (lstH v hi N) (lstL v lo N) := by
  have f := fst_nA ap hN
  have g := fst_nA ax hN
  have l := lst_nA ap hN
  rw [eh, el] at f l
  rw [l, g]
  have hp := two_pos (wiN v - N)
  generalize (2 : Int) ^ (wiN v - N) = p at *
  generalize nA hi lo = A at *
  generalize nA hx lx = X at *
  have a0 : A % p = 0 := by omega
  have x0 := Int.emod_nonneg X (show p ≠ 0 by omega)
  have x1 := Int.emod_lt_of_pos X hp
  constructor
  · intro h; omega
  · rintro ⟨h1, h2⟩
    obtain ⟨d, hd⟩ : ∃ d, X - A = d := ⟨_, rfl⟩
    have e : X % p = d := by
      have : X = A + d := by omega
      rw [this, Int.add_emod, a0, Int.zero_add, Int.emod_emod_of_dvd _ (Int.dvd_refl p)]
      exact Int.emod_eq_of_lt (by omega) (by omega)
    omega
end Go.Proofs.YtboddbheljenhaaGreatDoor
namespace Go.Proofs.YtboddbheljenhaaGreatDoor
open Go.RowKit
theorem cutZ_cut {k' k : Nat} (h : k' ≤ k) {x : Int} (h0 : 0 ≤ x) : cutZ (cutZ x k') k = cutZ x k := by
  obtain ⟨X, rfl⟩ := Int.eq_ofNat_of_zero_le h0
  rw [cutZ_nat, cutZ_nat, cutZ_nat]
  congr 1
  have hp : (2 : Nat) ^ k = 2 ^ k' * 2 ^ (k - k') := by rw [← Nat.pow_add]; congr 1; omega
  have e : X - X % 2 ^ k' = 2 ^ k' * (X / 2 ^ k') := by have := Nat.div_add_mod X (2 ^ k'); omega
  have hX := Nat.div_add_mod X (2 ^ k')
  rw [e, hp, Nat.mul_mod_mul_left, Nat.mod_mul]
  have hm := Nat.mod_le (X / 2 ^ k') (2 ^ (k - k'))
  generalize X / 2 ^ k' % 2 ^ (k - k') = r at *
  have h1 : 2 ^ k' * r ≤ 2 ^ k' * (X / 2 ^ k') := Nat.mul_le_mul_left _ hm
  omega
theorem khN_anti {v : Bool} {N N' : Nat} (h : N ≤ N') : khN v N' ≤ khN v N := by unfold khN; split <;> omega
theorem klN_anti {v : Bool} {N N' : Nat} (h : N ≤ N') : klN v N' ≤ klN v N := by unfold klN; split <;> omega
/-- The first address of the shorter prefix, out of that of the longer one. -/
theorem fst_fst {v : Bool} {hi lo : Int} {N N' : Nat} (h0 : 0 ≤ hi) (g0 : 0 ≤ lo) (h : N ≤ N') (hN : N' ≤ wiN v) : fstH v (fstH v hi N') N = fstH v hi N ∧ fstL v (fstL v lo N') N = fstL v lo N := by
  unfold fstH fstL
  rw [cl_of hN, cl_of (Nat.le_trans h hN)]
  exact ⟨cutZ_cut (khN_anti h) h0, cutZ_cut (klN_anti h) g0⟩
theorem cutZ_fix {k' k : Nat} (h : k' ≤ k) {x : Int} (h0 : 0 ≤ x) : cutZ (cutZ x k) k' = cutZ x k := by
  obtain ⟨X, rfl⟩ := Int.eq_ofNat_of_zero_le h0
  rw [cutZ_nat, cutZ_nat]
  congr 1
  have hp : (2 : Nat) ^ k = 2 ^ k' * 2 ^ (k - k') := by rw [← Nat.pow_add]; congr 1; omega
  have e : X - X % 2 ^ k = 2 ^ k * (X / 2 ^ k) := by have := Nat.div_add_mod X (2 ^ k); omega
  rw [e, hp, Nat.mul_assoc, Nat.mul_mod_right]
  rfl
/-- What is the first address of a prefix is that of each longer one, too. -/
theorem fst_long {v : Bool} {hi lo : Int} {N N' : Nat} (h0 : 0 ≤ hi) (g0 : 0 ≤ lo) (h : N ≤ N') (hN : N' ≤ wiN v) (eh : fstH v hi N = hi) (el : fstL v lo N = lo) : fstH v hi N' = hi ∧ fstL v lo N' = lo := by
  unfold fstH fstL at *
  rw [cl_of (Nat.le_trans h hN)] at eh el
  rw [cl_of hN]
  constructor
  · rw [← eh, cutZ_fix (khN_anti h) h0]
  · rw [← el, cutZ_fix (klN_anti h) g0]
/-- The first address of the second half. -/
theorem half_nA {v : Bool} {hi lo : Int} {N : Nat} (ap : AOk v hi lo) (hN : N < wiN v) (eh : fstH v hi N = hi) (el : fstL v lo N = lo) :
    nA (fstH v (lstH v hi N) ((N + 1 : Nat) : Int)) (fstL v (lstL v lo N) ((N + 1 : Nat) : Int)) = nA hi lo + 2 ^ (wiN v - N - 1) := by
  have al := aok_last ap (Nat.le_of_lt hN)
  have f := fst_nA ap (Nat.le_of_lt hN)
  have l := lst_nA ap (Nat.le_of_lt hN)
  rw [eh, el] at f l
  rw [fst_nA al hN, l, show wiN v - (N + 1) = wiN v - N - 1 by omega]
  obtain ⟨k, hk⟩ : ∃ k, wiN v - N = k + 1 := ⟨wiN v - N - 1, by omega⟩
  rw [hk] at f ⊢
  rw [show k + 1 - 1 = k by omega]
  have hp := two_pos k
  rw [Int.pow_succ] at f ⊢
  generalize (2 : Int) ^ k = p at *
  generalize nA hi lo = A at *
  have a0 : A % (p * 2) = 0 := by omega
  obtain ⟨q, rfl⟩ : ∃ q, A = p * 2 * q := ⟨A / (p * 2), by have := Int.emod_add_mul_ediv A (p * 2); omega⟩
  have e : (p * 2 * q + (p * 2 - 1)) % p = p - 1 := by
    have : p * 2 * q + (p * 2 - 1) = (p - 1) + p * (2 * q + 1) := by rw [Int.mul_add, Int.mul_assoc]; omega
    rw [this, Int.add_mul_emod_self_left, Int.emod_eq_of_lt (by omega) (by omega)]
  rw [e]
  omega
end Go.Proofs.YtboddbheljenhaaGreatDoor
namespace Go.Proofs.YtboddbheljenhaaGreatDoor
open Go.RowKit
/-- What Contains answers. -/
def inQ (v : Bool) (hi lo n : Int) (vx : Bool) (hx lx : Int) : Bool := vx == v && eqQ vx (fstH vx hx n) (fstL vx lx n) v (fstH v hi n) (fstL v lo n)
/-- A prefix as it is made. -/
structure POk (v : Bool) (hi lo : Int) (N : Nat) : Prop where
  a : AOk v hi lo
  n : N ≤ wiN v
  h : fstH v hi N = hi
  l : fstL v lo N = lo
theorem inQ_iff {v : Bool} {hi lo : Int} {N : Nat} (p : POk v hi lo N) (vx : Bool) (hx lx : Int) : inQ v hi lo N vx hx lx = true ↔ vx = v ∧ fstH v hx N = hi ∧ fstL v lx N = lo := by
  unfold inQ eqQ
  rw [p.h, p.l]
  constructor
  · intro h
    simp at h
    obtain ⟨rfl, h1, h2⟩ := h
    exact ⟨rfl, h1, h2⟩
  · rintro ⟨rfl, h1, h2⟩
    simp [h1, h2]
theorem inQ_self {v : Bool} {hi lo : Int} {N : Nat} (p : POk v hi lo N) : inQ v hi lo N v hi lo = true := (inQ_iff p _ _ _).2 ⟨rfl, p.h, p.l⟩
theorem inQ_last {v : Bool} {hi lo : Int} {N : Nat} (p : POk v hi lo N) : inQ v hi lo N v (lstH v hi N) (lstL v lo N) = true := by
  have al := aok_last p.a p.n
  have h := (in_nA p.a p.n p.h p.l al).2 ⟨by have := lst_nA p.a p.n; rw [p.h, p.l] at this; have := two_pos (wiN v - N); omega, Int.le_refl _⟩
  have af := aok_first (N : Int) al
  have e := (eqA_key af p.a).2 ((nA_key _ _ _ _ _).2.2 h)
  exact (inQ_iff p _ _ _).2 e
/-- What is in the longer prefix, is in the shorter one that contains it. -/
theorem inQ_trans {v : Bool} {hi lo : Int} {N : Nat} {v' : Bool} {hi' lo' : Int} {N' : Nat} (p : POk v hi lo N) (q : POk v' hi' lo' N') (hN : N ≤ N') (hq : inQ v hi lo N v' hi' lo' = true) {vx : Bool} {hx lx : Int} (ax : AOk vx hx lx) (hx' : inQ v' hi' lo' N' vx hx lx = true) : inQ v hi lo N vx hx lx = true := by
  obtain ⟨rfl, a1, a2⟩ := (inQ_iff p _ _ _).1 hq
  obtain ⟨rfl, b1, b2⟩ := (inQ_iff q _ _ _).1 hx'
  obtain ⟨c1, c2⟩ := fst_fst ax.hi0 ax.lo0 hN q.n
  rw [b1] at c1
  rw [b2] at c2
  exact (inQ_iff p _ _ _).2 ⟨rfl, by rw [← c1]; exact a1, by rw [← c2]; exact a2⟩
/-- Of two prefixes with an address in common, the shorter one contains the longer one's address. -/
theorem inQ_nest {v : Bool} {hi lo : Int} {N : Nat} {v' : Bool} {hi' lo' : Int} {N' : Nat} (p : POk v hi lo N) (q : POk v' hi' lo' N') (hN : N ≤ N') {vx : Bool} {hx lx : Int} (ax : AOk vx hx lx) (h1 : inQ v hi lo N vx hx lx = true) (h2 : inQ v' hi' lo' N' vx hx lx = true) : inQ v hi lo N v' hi' lo' = true := by
  obtain ⟨rfl, a1, a2⟩ := (inQ_iff p _ _ _).1 h1
  obtain ⟨rfl, b1, b2⟩ := (inQ_iff q _ _ _).1 h2
  obtain ⟨c1, c2⟩ := fst_fst ax.hi0 ax.lo0 hN q.n
  rw [b1, a1] at c1
  rw [b2, a2] at c2
  exact (inQ_iff p _ _ _).2 ⟨rfl, c1, c2⟩
end Go.Proofs.YtboddbheljenhaaGreatDoor
