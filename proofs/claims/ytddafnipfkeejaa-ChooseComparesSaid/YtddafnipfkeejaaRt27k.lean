/-
  Layer 27: the comparison is a total order: about numbers alone.
-/
import Derived.Test.YtddafnipfkeejaaRt27h
namespace Go.Proofs.Ytddafnipfkeejaa
open Go.RowKit
theorem cmpZ_val (x y : Int) : (x < y ∧ cmpZ x y = -1) ∨ (x = y ∧ cmpZ x y = 0) ∨ (y < x ∧ cmpZ x y = 1) := by
  unfold cmpZ
  rcases Int.lt_trichotomy x y with h | h | h
  · left; exact ⟨h, by simp [h]⟩
  · right; left; subst h; exact ⟨rfl, by simp⟩
  · right; right; exact ⟨h, by simp [h, Int.not_lt.2 (Int.le_of_lt h)]⟩
theorem cmpZ_swap (x y : Int) : cmpZ y x = -cmpZ x y := by
  rcases cmpZ_val x y with ⟨h, e⟩ | ⟨h, e⟩ | ⟨h, e⟩ <;> rcases cmpZ_val y x with ⟨g, f⟩ | ⟨g, f⟩ | ⟨g, f⟩ <;> omega
theorem neg_ne (c : Int) : (-c != 0) = (c != 0) := by
  rw [Bool.eq_iff_iff]
  simp
theorem ordZ_swap (x y : KY) : ordZ y x = (-(ordZ x y).1, (ordZ x y).2) := by
  unfold ordZ
  rw [cmpZ_swap y.va x.va, cmpZ_swap x.ln y.ln, cmpZ_swap x.og y.og, cmpZ_swap x.me y.me, cmpZ_swap x.fr y.fr]
  simp only [neg_ne]
  cases cmpZ y.va x.va != 0 <;> cases cmpZ x.ln y.ln != 0 <;> cases cmpZ x.og y.og != 0 <;> cases cmpZ x.me y.me != 0 <;> cases cmpZ x.fr y.fr != 0 <;> rfl
def lx (c d : Int) : Int := bif c != 0 then c else d
theorem ordZ_lx (x y : KY) : (ordZ x y).1 = lx (cmpZ y.va x.va) (lx (cmpZ x.ln y.ln) (lx (cmpZ x.og y.og) (lx (cmpZ x.me y.me) (lx (cmpZ x.fr y.fr) 0)))) := by
  unfold ordZ lx
  cases cmpZ y.va x.va != 0 <;> cases cmpZ x.ln y.ln != 0 <;> cases cmpZ x.og y.og != 0 <;> cases cmpZ x.me y.me != 0 <;> cases cmpZ x.fr y.fr != 0 <;> rfl
def TR (ab bc ac : Int) : Prop := ab ≤ 0 → bc ≤ 0 → ac ≤ 0 ∧ (ac = 0 → ab = 0 ∧ bc = 0)
theorem TR_cmp (a b c : Int) : TR (cmpZ a b) (cmpZ b c) (cmpZ a c) := by
  intro h1 h2
  rcases cmpZ_val a b with ⟨h, e⟩ | ⟨h, e⟩ | ⟨h, e⟩ <;> rcases cmpZ_val b c with ⟨g, f⟩ | ⟨g, f⟩ | ⟨g, f⟩ <;> rcases cmpZ_val a c with ⟨k, m⟩ | ⟨k, m⟩ | ⟨k, m⟩ <;> omega
theorem TR_lx {p q r s t u : Int} (h : TR p q r) (g : TR s t u) : TR (lx p s) (lx q t) (lx r u) := by
  intro h1 h2
  unfold lx at *
  have hp : p ≤ 0 := by
    by_cases e : p = 0
    · omega
    · have : (p != 0) = true := by simpa using e
      rw [this] at h1; exact h1
  have hq : q ≤ 0 := by
    by_cases e : q = 0
    · omega
    · have : (q != 0) = true := by simpa using e
      rw [this] at h2; exact h2
  obtain ⟨hr, hr0⟩ := h hp hq
  by_cases e : r = 0
  · obtain ⟨p0, q0⟩ := hr0 e
    subst e p0 q0
    exact g h1 h2
  · have : (r != 0) = true := by simpa using e
    rw [this]
    exact ⟨hr, fun h => absurd h e⟩
theorem TR_zero : TR 0 0 0 := fun _ _ => ⟨Int.le_refl _, fun _ => ⟨rfl, rfl⟩⟩
theorem TR_rev {a b c : Int} : TR (cmpZ b a) (cmpZ c b) (cmpZ c a) := by
  intro h1 h2
  rcases cmpZ_val b a with ⟨h, e⟩ | ⟨h, e⟩ | ⟨h, e⟩ <;> rcases cmpZ_val c b with ⟨g, f⟩ | ⟨g, f⟩ | ⟨g, f⟩ <;> rcases cmpZ_val c a with ⟨k, m⟩ | ⟨k, m⟩ | ⟨k, m⟩ <;> omega
theorem ordZ_trans (x y z : KY) : TR (ordZ x y).1 (ordZ y z).1 (ordZ x z).1 := by
  rw [ordZ_lx, ordZ_lx, ordZ_lx]
  exact TR_lx TR_rev (TR_lx (TR_cmp _ _ _) (TR_lx (TR_cmp _ _ _) (TR_lx (TR_cmp _ _ _) (TR_lx (TR_cmp _ _ _) TR_zero))))
theorem ordZ_range (x y : KY) : -1 ≤ (ordZ x y).1 ∧ (ordZ x y).1 ≤ 1 := by
  have k : ∀ a b : Int, -1 ≤ cmpZ a b ∧ cmpZ a b ≤ 1 := fun a b => by rcases cmpZ_val a b with ⟨h, e⟩ | ⟨h, e⟩ | ⟨h, e⟩ <;> omega
  have g : ∀ a b : Int, -1 ≤ a ∧ a ≤ 1 → -1 ≤ b ∧ b ≤ 1 → -1 ≤ lx a b ∧ lx a b ≤ 1 := fun a b h1 h2 => by
    unfold lx
    cases a != 0
    · exact h2
    · exact h1
  rw [ordZ_lx]
  exact g _ _ (k _ _) (g _ _ (k _ _) (g _ _ (k _ _) (g _ _ (k _ _) (g _ _ (k _ _) (by omega)))))
theorem cmpZ_self (x : Int) : cmpZ x x = 0 := by rcases cmpZ_val x x with ⟨h, e⟩ | ⟨h, e⟩ | ⟨h, e⟩ <;> omega
theorem ordZ_self (x : KY) : ordZ x x = (0, 0) := by
  unfold ordZ
  simp only [cmpZ_self]
  rfl
theorem ordZ_step (x y : KY) : ((ordZ x y).2 == 0) = ((ordZ x y).1 == 0) := by
  unfold ordZ
  have k : ∀ a : Int, (a != 0) = true → (a == 0) = false := fun a h => by simpa using h
  cases h1 : cmpZ y.va x.va != 0
  · cases h2 : cmpZ x.ln y.ln != 0
    · cases h3 : cmpZ x.og y.og != 0
      · cases h4 : cmpZ x.me y.me != 0
        · cases h5 : cmpZ x.fr y.fr != 0
          · rfl
          · exact (k _ h5).symm
        · exact (k _ h4).symm
      · exact (k _ h3).symm
    · exact (k _ h2).symm
  · exact (k _ h1).symm
theorem ordZ_zero {x y : KY} (h : (ordZ x y).1 = 0) : x.fr = y.fr := by
  rw [ordZ_lx] at h
  have k : ∀ a b : Int, lx a b = 0 → a = 0 ∧ b = 0 := fun a b h => by
    unfold lx at h
    cases e : a != 0
    · rw [e] at h
      exact ⟨by simpa using e, h⟩
    · rw [e] at h
      have : a ≠ 0 := by simpa using e
      exact absurd h this
  have h1 := k _ _ (k _ _ (k _ _ (k _ _ (k _ _ h).2).2).2).2
  rcases cmpZ_val x.fr y.fr with ⟨g, e⟩ | ⟨g, e⟩ | ⟨g, e⟩ <;> omega
theorem ordZ_from {w : WK} {r s : RK} (h : r.from_ = s.from_ → r = s) : ((ordZ (keyZ w r) (keyZ w s)).1 == 0) = (r.from_ == s.from_) := by
  by_cases e : r.from_ = s.from_
  · rw [h e, ordZ_self]
    simp
  · have : (r.from_ == s.from_) = false := by simpa using e
    rw [this]
    have : (ordZ (keyZ w r) (keyZ w s)).1 ≠ 0 := fun h => e (ordZ_zero h)
    simpa using this
end Go.Proofs.Ytddafnipfkeejaa
