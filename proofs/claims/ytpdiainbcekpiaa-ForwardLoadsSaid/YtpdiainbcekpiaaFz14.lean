/-
  What distances are, about lists only.
-/
import Derived.Test.YtpdiainbcekpiaaFb13g
namespace Go.Proofs.Ytpdiainbcekpiaa
open Go.RowKit
theorem distZ_neg {f : FK} {L : List Int} {to : Int} (h : f.al to = false) (v : Nat) (hv : v < 8) : (distZ f L to).getD v 0 = -1 := by
  unfold distZ
  rw [h, cond_false, List.getD_eq_getElem?_getD, List.getElem?_replicate, if_pos hv]
  rfl
/-- What it means that a distance isn't negative. -/
theorem dist_nonneg {f : FK} (h : f.ok = true) {L : List Int} (hL : ∀ i ∈ L, i ∈ wls f) {s v : Nat} (hv : v < 8) : 0 ≤ (distZ f L s).getD v 0 ↔ f.al s = true ∧ ∃ j, wlk f L j s v := by
  cases ha : f.al s with
  | false =>
    rw [distZ_neg ha v hv]
    constructor
    · intro h; omega
    · rintro ⟨h, _⟩; cases h
  | true =>
    have hD := isD_distZ h hL ha
    rcases hD.2 v hv with ⟨h1, h2⟩ | ⟨k, h1, h2, h3, h4⟩
    · rw [h1]
      constructor
      · intro h; omega
      · rintro ⟨_, j, hj⟩; exact absurd hj (h2 j)
    · rw [h1]
      exact ⟨fun _ => ⟨rfl, k, h3⟩, fun _ => by omega⟩
theorem wlk_al {f : FK} (h : f.ok = true) {L : List Int} (hL : ∀ i ∈ L, i ∈ wls f) {j x y : Nat} (hx : f.al x = true) (hw : wlk f L j x y) : f.al y = true := by
  cases j with
  | zero =>
    have : x = y := hw
    subst this
    exact hx
  | succ j =>
    obtain ⟨z, _, ha⟩ := hw
    exact (adj_al h hL ha).2
theorem dist_symm0 {f : FK} (h : f.ok = true) {L : List Int} (hL : ∀ i ∈ L, i ∈ wls f) {s v : Nat} (hs : s < 8) (hv : v < 8) : 0 ≤ (distZ f L s).getD v 0 ↔ 0 ≤ (distZ f L v).getD s 0 := by
  rw [dist_nonneg h hL hv, dist_nonneg h hL hs]
  constructor
  · rintro ⟨h1, j, hj⟩
    exact ⟨wlk_al h hL h1 hj, j, wlk_symm hj⟩
  · rintro ⟨h1, j, hj⟩
    exact ⟨wlk_al h hL h1 hj, j, wlk_symm hj⟩
theorem al_iff {f : FK} (h : f.ok = true) {s : Nat} : f.al s = true ↔ s < f.sw.toNat ∧ f.dd.getD s false = false := by
  obtain ⟨h1, -, -, -, -, -⟩ := FK.ok_facts h
  unfold FK.al
  simp only [Int.toNat_natCast, Bool.and_eq_true, decide_eq_true_eq, Bool.not_eq_true']
  constructor
  · rintro ⟨⟨_, h2⟩, h3⟩; exact ⟨by omega, h3⟩
  · rintro ⟨h2, h3⟩; exact ⟨⟨by omega, by omega⟩, h3⟩
theorem wk_adj {f : FK} (h : f.ok = true) {i : Nat} (hi : i < f.ls.length) (hw : f.wk i = true) : adj f (wls f) (f.la i) (f.lb i) ∧ f.al (f.la i) = true ∧ f.al (f.lb i) = true := by
  have ha : adj f (wls f) (f.la i) (f.lb i) := ⟨(i : Int), mem_wkL.2 ⟨i, rfl, hi, hw⟩, .inl ⟨by rw [Int.toNat_natCast], by rw [Int.toNat_natCast]⟩⟩
  exact ⟨ha, adj_al h (fun i hi => hi) ha⟩
/-- Distances by ways: the least number of steps. -/
theorem dist_val {f : FK} (h : f.ok = true) {s v : Nat} (hv : v < 8) : (dsts f s).getD v 0 = -1 ∧ (f.al s = false ∨ ∀ j, ¬ wlk f (wls f) j s v) ∨ ∃ k : Nat, (dsts f s).getD v 0 = (k : Int) ∧ k < f.sw.toNat ∧ f.al s = true ∧ wlk f (wls f) k s v ∧ ∀ j, j < k → ¬ wlk f (wls f) j s v := by
  unfold dsts
  cases ha : f.al s with
  | false => exact .inl ⟨distZ_neg ha v hv, .inl rfl⟩
  | true =>
    rcases (isD_distZ h (fun i hi => hi) ha).2 v hv with ⟨h1, h2⟩ | ⟨k, h1, h2, h3, h4⟩
    · exact .inl ⟨h1, .inr h2⟩
    · exact .inr ⟨k, h1, h2, rfl, h3, h4⟩
theorem dist_range {f : FK} (h : f.ok = true) {s v : Nat} (hv : v < 8) : -1 ≤ (dsts f s).getD v 0 ∧ (dsts f s).getD v 0 ≤ 8 := by
  obtain ⟨h1, h2, -, -, -, -⟩ := FK.ok_facts h
  rcases dist_val h (s := s) hv with ⟨h1, _⟩ | ⟨k, h1, h2, _⟩ <;> omega
theorem dist_symm {f : FK} (h : f.ok = true) {s v : Nat} (hs : s < 8) (hv : v < 8) : (dsts f s).getD v 0 = (dsts f v).getD s 0 := by
  rcases dist_val h (s := s) hv with ⟨a1, a2⟩ | ⟨k, a1, a2, a3, a4, a5⟩ <;> rcases dist_val h (s := v) hs with ⟨b1, b2⟩ | ⟨l, b1, b2, b3, b4, b5⟩
  · rw [a1, b1]
  · exfalso
    rcases a2 with a2 | a2
    · have := wlk_al h (fun i hi => hi) b3 b4
      rw [a2] at this; cases this
    · exact a2 _ (wlk_symm b4)
  · exfalso
    rcases b2 with b2 | b2
    · have := wlk_al h (fun i hi => hi) a3 a4
      rw [b2] at this; cases this
    · exact b2 _ (wlk_symm a4)
  · rw [a1, b1]
    have h1 : ¬ l < k := fun q => a5 l q (wlk_symm b4)
    have h2 : ¬ k < l := fun q => b5 k q (wlk_symm a4)
    congr 1
    omega
theorem dist_step {f : FK} (h : f.ok = true) {t : Nat} {x y : Nat} (hx : x < 8) (hy : y < 8) (ha : adj f (wls f) x y) : ((dsts f t).getD x 0 < 0 ∧ (dsts f t).getD y 0 < 0) ∨ (0 ≤ (dsts f t).getD x 0 ∧ 0 ≤ (dsts f t).getD y 0 ∧ (dsts f t).getD x 0 - (dsts f t).getD y 0 ≤ 1 ∧ (dsts f t).getD y 0 - (dsts f t).getD x 0 ≤ 1) := by
  rcases dist_val h (s := t) hx with ⟨a1, a2⟩ | ⟨k, a1, a2, a3, a4, a5⟩ <;> rcases dist_val h (s := t) hy with ⟨b1, b2⟩ | ⟨l, b1, b2, b3, b4, b5⟩
  · exact .inl (by omega)
  · exfalso
    rcases a2 with a2 | a2
    · rw [a2] at b3; cases b3
    · exact a2 (l + 1) ⟨y, b4, adj_symm ha⟩
  · exfalso
    rcases b2 with b2 | b2
    · rw [b2] at a3; cases a3
    · exact b2 (k + 1) ⟨x, a4, ha⟩
  · have h1 : ¬ k + 1 < l := fun q => b5 (k + 1) q ⟨x, a4, ha⟩
    have h2 : ¬ l + 1 < k := fun q => a5 (l + 1) q ⟨y, b4, adj_symm ha⟩
    exact .inr (by omega)
theorem dist_near {f : FK} (h : f.ok = true) {t v : Nat} (hv : v < 8) (hd : 0 < (dsts f t).getD v 0) : ∃ i, i < f.ls.length ∧ f.wk i = true ∧ ((f.la i = v ∧ (dsts f t).getD (f.lb i) 0 = (dsts f t).getD v 0 - 1) ∨ (f.lb i = v ∧ (dsts f t).getD (f.la i) 0 = (dsts f t).getD v 0 - 1)) := by
  obtain ⟨-, h8, -, -, hdd, -⟩ := FK.ok_facts h
  rcases dist_val h (s := t) hv with ⟨a1, a2⟩ | ⟨k, a1, a2, a3, a4, a5⟩
  · omega
  · obtain ⟨m, rfl⟩ : ∃ m, k = m + 1 := ⟨k - 1, by omega⟩
    obtain ⟨z, hz, ha⟩ := a4
    have ha' := ha
    obtain ⟨i, hi, hxy⟩ := ha
    obtain ⟨j, rfl, hj, hw⟩ := mem_wkL.1 hi
    obtain ⟨-, -, h1, h2, -⟩ := FK.ends h hj
    rw [Int.toNat_natCast] at hxy
    have hz8 : z < 8 := by omega
    have hzd : (dsts f t).getD z 0 = (m : Int) := by
      rcases dist_val h (s := t) hz8 with ⟨b1, b2⟩ | ⟨l, b1, b2, b3, b4, b5⟩
      · rcases b2 with b2 | b2
        · rw [b2] at a3; cases a3
        · exact absurd hz (b2 m)
      · have q1 : ¬ m < l := fun q => b5 m q hz
        have q2 : ¬ l < m := fun q => a5 (l + 1) (by omega) ⟨z, b4, ha'⟩
        rw [b1]; congr 1; omega
    refine ⟨j, hj, hw, ?_⟩
    rcases hxy with ⟨rfl, rfl⟩ | ⟨rfl, rfl⟩
    · exact .inr ⟨rfl, by rw [hzd, a1]; omega⟩
    · exact .inl ⟨rfl, by rw [hzd, a1]; omega⟩
theorem dist_zero {f : FK} (h : f.ok = true) {t v : Nat} (hv : v < 8) (hd : (dsts f t).getD v 0 = 0) : v = t := by
  rcases dist_val h (s := t) hv with ⟨a1, a2⟩ | ⟨k, a1, a2, a3, a4, a5⟩
  · omega
  · have : k = 0 := by omega
    subst this
    exact Eq.symm a4
theorem dist_self {f : FK} (h : f.ok = true) {t : Nat} (ht : t < 8) : (dsts f t).getD t 0 = if f.al t = true then 0 else -1 := by
  cases ha : f.al t with
  | false =>
    rw [if_neg (by simp)]
    exact distZ_neg ha t ht
  | true =>
    rw [if_pos rfl]
    rcases dist_val h (s := t) ht with ⟨a1, a2⟩ | ⟨k, a1, a2, a3, a4, a5⟩
    · rcases a2 with a2 | a2
      · rw [a2] at ha; cases ha
      · exact absurd rfl (a2 0)
    · have : ¬ 0 < k := fun q => a5 0 q rfl
      rw [a1]
      have : k = 0 := by omega
      rw [this]; rfl
theorem dist_dead {f : FK} (h : f.ok = true) {t v : Nat} (hv : v < 8) (hd : f.al v = false) : (dsts f t).getD v 0 = -1 := by
  rcases dist_val h (s := t) hv with ⟨a1, a2⟩ | ⟨k, a1, a2, a3, a4, a5⟩
  · exact a1
  · have := wlk_al h (fun i hi => hi) a3 a4
    rw [hd] at this; cases this
end Go.Proofs.Ytpdiainbcekpiaa
