/-
  Layer 7: the options that follow a message in NeighborMore: plain mathematics.
-/
import Derived.Test.YtogchaijglbjaaaNb7n
namespace Go.Proofs.Ytogchaijglbjaaa
open Go.RowKit
def moreL (t : Int) (u : Nat) : List Int := ((List.replicate (8 * u) 0).set 0 t).set 1 (u : Int)
def againL (k : Int) : List Int := [optZ k, 1, 2, 2, 2, 2, 2, 2]
theorem optZ_cases (k : Int) : optZ k = 1 ∨ optZ k = 2 := by unfold optZ; split <;> simp
theorem moreL_len (t : Int) (u : Nat) : (moreL t u).length = 8 * u := by simp [moreL]
theorem moreL_bytes {t : Int} {u : Nat} (ht : 0 ≤ t ∧ t < 256) (hu : u < 256) : Bytes (moreL t u) := by
  unfold moreL
  exact set_bytes _ (set_bytes _ (fun z hz => by obtain ⟨-, rfl⟩ := List.mem_replicate.1 hz; omega) ht) (by omega)
theorem againL_bytes (k : Int) : Bytes (againL k) := by
  have := optZ_cases k
  intro z hz
  simp only [againL, List.mem_cons, List.not_mem_nil, or_false] at hz
  omega
theorem link_skip (num t : Int) (u : Nat) (hu : u = 1 ∨ u = 2 ∨ u = 3 ∨ u = 4) (ht : t ≠ num) (f : Nat) (has : Bool) (m : M6) : linkZ num (f + 1) (moreL t u) has m = (m, has, true) := by
  unfold linkZ
  rcases hu with rfl | rfl | rfl | rfl
  · rw [show moreL t 1 = [t, 1, 0, 0, 0, 0, 0, 0] from rfl, if_neg (by simp), if_neg (by simp [badO]), if_neg (by simp [ht])]
    exact linkZ_nil _ _ _ _ rfl
  · rw [show moreL t 2 = [t, 2, 0, 0, 0, 0, 0, 0, 0, 0, 0, 0, 0, 0, 0, 0] from rfl, if_neg (by simp), if_neg (by simp [badO]), if_neg (by simp)]
    exact linkZ_nil _ _ _ _ rfl
  · rw [show moreL t 3 = [t, 3, 0, 0, 0, 0, 0, 0, 0, 0, 0, 0, 0, 0, 0, 0, 0, 0, 0, 0, 0, 0, 0, 0] from rfl, if_neg (by simp), if_neg (by simp [badO]), if_neg (by simp)]
    exact linkZ_nil _ _ _ _ rfl
  · rw [show moreL t 4 = [t, 4, 0, 0, 0, 0, 0, 0, 0, 0, 0, 0, 0, 0, 0, 0, 0, 0, 0, 0, 0, 0, 0, 0, 0, 0, 0, 0, 0, 0, 0, 0] from rfl, if_neg (by simp), if_neg (by simp [badO]), if_neg (by simp)]
    exact linkZ_nil _ _ _ _ rfl
theorem link_first (num l0 l1 l2 l3 l4 l5 : Int) (E : List Int) (f : Nat) : linkZ num (f + 1) ([num, 1] ++ [l0, l1, l2, l3, l4, l5] ++ E) false z6 = linkZ num f E true ⟨l0, l1, l2, l3, l4, l5⟩ := by
  conv => lhs; unfold linkZ
  rw [if_neg (by simp), if_neg (by simp [badO]; omega), if_pos (by simp)]
  rfl
theorem link_late (num k : Int) (f : Nat) (m : M6) : linkZ num (f + 1) (againL k) true m = (m, true, true) := by
  unfold linkZ
  rw [if_neg (by simp [againL]), if_neg (by simp [badO, againL]), if_neg (by simp)]
  exact linkZ_nil _ _ _ _ rfl
theorem link_more {n : NK} (hok : n.ok = true) (t : Int) (u : Nat) (hu : u = 1 ∨ u = 2 ∨ u = 3 ∨ u = 4) (ht : 3 ≤ t) : linkZ (optZ n.kind) ((bif n.has then [optZ n.kind, 1] ++ n.link else []) ++ moreL t u).length ((bif n.has then [optZ n.kind, 1] ++ n.link else []) ++ moreL t u) false z6 = (⟨n.l0, n.l1, n.l2, n.l3, n.l4, n.l5⟩, n.has, true) := by
  have hop := optZ_cases n.kind
  have hml := moreL_len t u
  cases hh : n.has with
  | false =>
    obtain ⟨-, -, -, -, -, -, -, q8⟩ := NK.ok_facts hok
    have := q8 hh
    simp only [NK.link, List.cons.injEq, and_true] at this
    obtain ⟨z0, z1, z2, z3, z4, z5⟩ := this
    rw [z0, z1, z2, z3, z4, z5]
    simp only [cond_false, List.nil_append]
    rw [hml, show 8 * u = (8 * u - 1) + 1 by omega]
    exact link_skip _ t u hu (by omega) _ _ _
  | true =>
    simp only [cond_true]
    have e : ([optZ n.kind, 1] ++ n.link ++ moreL t u).length = (8 * u + 6) + 1 + 1 := by simp [NK.link, hml]
    rw [e]
    exact (link_first _ _ _ _ _ _ _ _ _).trans (link_skip _ t u hu (by omega) _ _ _)
theorem link_again {n : NK} : linkZ (optZ n.kind) ((bif n.has then [optZ n.kind, 1] ++ n.link else []) ++ againL n.kind).length ((bif n.has then [optZ n.kind, 1] ++ n.link else []) ++ againL n.kind) false z6 = (bif n.has then ⟨n.l0, n.l1, n.l2, n.l3, n.l4, n.l5⟩ else ⟨2, 2, 2, 2, 2, 2⟩, true, true) := by
  cases hh : n.has with
  | false => exact link_one _ _ _ _ _ _ _
  | true =>
    simp only [cond_true]
    have e : ([optZ n.kind, 1] ++ n.link ++ againL n.kind).length = 14 + 1 + 1 := by simp [NK.link, againL]
    rw [e]
    exact (link_first _ _ _ _ _ _ _ _ _).trans (link_late _ _ _ _)
def wantN (n : NK) : NK := bif n.has then n else ⟨n.kind, n.flags, n.tv, n.th, n.tl, true, 2, 2, 2, 2, 2, 2⟩
theorem dec_moreA {n : NK} (hok : n.ok = true) (hlb : Bytes n.link) (ht : 0 ≤ n.th ∧ n.th < 18446744073709551616) (htl : 0 ≤ n.tl ∧ n.tl < 18446744073709551616) (h l h2 l2 : Int) (t : Int) (u : Nat) (hu : u = 1 ∨ u = 2 ∨ u = 3 ∨ u = 4) (h3 : 3 ≤ t) (h4 : t < 256) (hno : ¬ (n.kind = 135 ∧ (h = 0 ∧ l = 0))) :
    decN ⟨true, h, l, true, h2, l2, 58, 255, sgn h l h2 l2 (n.b3 ++ moreL t u)⟩ = (n, 0) :=
  dec_more hok hlb ht htl h l h2 l2 (moreL t u) (moreL_bytes (by omega) (by omega)) (by rw [moreL_len]; omega) n.has ⟨n.l0, n.l1, n.l2, n.l3, n.l4, n.l5⟩ (link_more hok t u hu h3) hno
theorem dec_moreB {n : NK} (hok : n.ok = true) (hlb : Bytes n.link) (ht : 0 ≤ n.th ∧ n.th < 18446744073709551616) (htl : 0 ≤ n.tl ∧ n.tl < 18446744073709551616) (h l h2 l2 : Int) (hno : ¬ (n.kind = 135 ∧ (h = 0 ∧ l = 0))) :
    decN ⟨true, h, l, true, h2, l2, 58, 255, sgn h l h2 l2 (n.b3 ++ againL n.kind)⟩ = (wantN n, 0) := by
  rw [dec_more hok hlb ht htl h l h2 l2 (againL n.kind) (againL_bytes _) (by simp [againL]) true _ link_again hno]
  unfold wantN
  cases hh : n.has
  · rfl
  · obtain ⟨kind, flags, tv, th, tl, has, l0, l1, l2, l3, l4, l5⟩ := n
    simp only at hh
    subst hh
    rfl
theorem set23_app : ∀ (b E : List Int) (x y : Int), 4 ≤ b.length → b.getD 2 0 = 0 → b.getD 3 0 = 0 → (((((b.set 2 x).set 3 y) ++ E).set 2 0).set 3 0) = b ++ E
  | a0 :: a1 :: a2 :: a3 :: r, E, x, y, _, h2, h3 => by
    simp at h2 h3
    subst h2; subst h3
    simp
  | [], _, _, _, h, _, _ => by simp at h
  | [_], _, _, _, h, _, _ => by simp at h
  | [_, _], _, _, _, h, _, _ => by simp at h
  | [_, _, _], _, _, _, h, _, _ => by simp at h
theorem unsign (h l h2 l2 : Int) (b E : List Int) (hl : 4 ≤ b.length) (e2 : b.getD 2 0 = 0) (e3 : b.getD 3 0 = 0) : (((sgn h l h2 l2 b ++ E).set 2 0).set 3 0) = b ++ E := set23_app _ _ _ _ hl e2 e3
def sgnP (p : PK) : PK := if 4 ≤ p.data.length ∧ p.ok = true ∧ p.v = true then ⟨p.v, p.h, p.l, p.v2, p.h2, p.l2, p.pr, p.ttl, sgn p.h p.l p.h2 p.l2 ((p.data.set 2 0).set 3 0)⟩ else p
end Go.Proofs.Ytogchaijglbjaaa
