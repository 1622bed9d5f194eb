/-
  Layer 2: the first and the last address of a prefix, by one number. No walk.
-/
import Derived.Test.YtboddbheljenhaaGreatDoorAdz
import Derived.Test.YtboddbheljenhaaGreatDoorRmk
namespace Go.Proofs.YtboddbheljenhaaGreatDoor
open Go.RowKit
/-- An address of a family as one number. -/
def nA (hi lo : Int) : Int := hi * 18446744073709551616 + lo
theorem nA_key (v : Bool) (hi lo hi' lo' : Int) : (keyA v hi lo < keyA v hi' lo' ↔ nA hi lo < nA hi' lo') ∧ (keyA v hi lo = keyA v hi' lo' ↔ nA hi lo = nA hi' lo') := by
  unfold keyA nA
  constructor <;> constructor <;> intro h <;> omega
theorem fst_nA {v : Bool} {hi lo : Int} {N : Nat} (ao : AOk v hi lo) (hN : N ≤ wiN v) : nA (fstH v hi N) (fstL v lo N) = nA hi lo - nA hi lo % 2 ^ (wiN v - N) := by
  obtain ⟨h0, h1, g0, g1, h4⟩ := ao
  obtain ⟨H, rfl⟩ := Int.eq_ofNat_of_zero_le h0
  obtain ⟨L, rfl⟩ := Int.eq_ofNat_of_zero_le g0
  unfold fstH fstL nA
  rw [cl_of hN]
  cases v with
  | true =>
    have hN' : N ≤ 128 := hN
    obtain ⟨e1, e2⟩ := cut_six H L N (by omega) hN'
    rw [← e1, ← e2]
    have hm := Nat.mod_le (H * 18446744073709551616 + L) (2 ^ (128 - N))
    have e : wiN true - N = 128 - N := rfl
    rw [e, ← cast_pow]
    have e3 : (H : Int) * 18446744073709551616 + (L : Int) = ((H * 18446744073709551616 + L : Nat) : Int) := by omega
    rw [e3, ← Int.natCast_emod, ← Int.ofNat_sub hm]
    generalize H * 18446744073709551616 + L - (H * 18446744073709551616 + L) % 2 ^ (128 - N) = y
    omega
  | false =>
    obtain ⟨hz, -⟩ := h4 rfl
    obtain rfl : H = 0 := by omega
    have e : wiN false - N = 32 - N := rfl
    rw [e]
    unfold cutZ klN
    simp
theorem two_split (N : Nat) (h : N < 64) : ((2 : Int) ^ (64 - N) - 1) * 18446744073709551616 + (2 ^ 64 - 1) = 2 ^ (128 - N) - 1 := by
  have e : (2 : Int) ^ (128 - N) = 2 ^ (64 - N) * 2 ^ 64 := by rw [← Int.pow_add]; congr 1; omega
  have e64 : (2 : Int) ^ 64 = 18446744073709551616 := by decide
  rw [e, e64, Int.sub_mul]
  omega
theorem lst_nA {v : Bool} {hi lo : Int} {N : Nat} (ao : AOk v hi lo) (hN : N ≤ wiN v) : nA (lstH v hi N) (lstL v lo N) = nA (fstH v hi N) (fstL v lo N) + (2 ^ (wiN v - N) - 1) := by
  unfold lstH lstL fstH fstL nA filZ cutZ
  rw [cl_of hN]
  cases v with
  | true =>
    have e : wiN true - N = 128 - N := rfl
    have hN' : N ≤ 128 := hN
    rw [e]
    unfold khN klN
    rw [if_pos rfl, if_pos rfl]
    by_cases c : N < 64
    · rw [Nat.min_eq_left (by omega), ← two_split N c]
      omega
    · rw [show 64 - N = 0 by omega, Nat.min_eq_right (by omega)]
      simp
      omega
  | false =>
    have e : wiN false - N = 32 - N := rfl
    rw [e]
    unfold khN klN
    simp
    omega
/-- The last address of a valid prefix is valid. -/
theorem aok_last {v : Bool} {hi lo : Int} {N : Nat} (ao : AOk v hi lo) (hN : N ≤ wiN v) : AOk v (lstH v hi N) (lstL v lo N) := by
  obtain ⟨h0, h1, h2, h3, h4⟩ := ao
  have a := lstH_rng (v := v) (N : Int) h0 h1
  have b := lstL_rng (v := v) (N : Int) h2 h3
  refine ⟨a.1, a.2, b.1, b.2, fun hv => ?_⟩
  obtain ⟨rfl, h5⟩ := h4 hv
  subst hv
  have hN' : N ≤ 32 := hN
  unfold lstH lstL
  rw [cl_of hN]
  refine ⟨by unfold filZ khN; simp, ?_⟩
  have := (filZ_bd (x := lo) (klN false N) 32 h2 (by omega) (by unfold klN; simp)).2
  omega
/-- An address is in a prefix exactly if it stands between its first and its last one. -/
theorem in_nA {v : Bool} {hi lo hx lx : Int} {N : Nat} (ap : AOk v hi lo) (hN : N ≤ wiN v) (eh : fstH v hi N = hi) (el : fstL v lo N = lo) (ax : AOk v hx lx) :
    nA (fstH v hx N) (fstL v lx N) = nA hi lo ↔ nA hi lo ≤ nA hx lx ∧ nA hx lx ≤ nA (lstH v hi N) (lstL v lo N) := by
  have f := fst_nA ap hN
  have g := fst_nA ax hN
  have l := lst_nA ap hN
  rw [eh, el] at f l
  rw [l, g]
  have hp := two_pos (wiN v - N)
  generalize (2 : Int) ^ (wiN v - N) = p at *
  generalize nA hi lo = A at *
  generalize nA hx lx = X at *
  have a0 : A % p = 0 := by omega
  have x0 := Int.emod_nonneg X (show p ≠ 0 by omega)
  have x1 := Int.emod_lt_of_pos X hp
  constructor
  · intro h; omega
  · rintro ⟨h1, h2⟩
    obtain ⟨d, hd⟩ : ∃ d, X - A = d := ⟨_, rfl⟩
    have e : X % p = d := by
      have : X = A + d := by omega
      rw [this, Int.add_emod, a0, Int.zero_add, Int.emod_emod_of_dvd _ (Int.dvd_refl p)]
      exact Int.emod_eq_of_lt (by omega) (by omega)
    omega
end Go.Proofs.YtboddbheljenhaaGreatDoor
