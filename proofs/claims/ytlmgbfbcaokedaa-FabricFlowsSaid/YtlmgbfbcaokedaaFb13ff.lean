/-
  Layer 13: the least cut by number is the greatest flow, in both directions. About lists only.
-/
import Derived.Test.YtlmgbfbcaokedaaFb13rf
namespace Go.Proofs.Ytlmgbfbcaokedaa
open Go.RowKit
theorem sb_ex : ∀ (n : Nat) (S : Nat → Bool), ∃ m, m < 2 ^ n ∧ ∀ x, x < n → sb m x = S x
  | 0, _ => ⟨0, by simp, fun x hx => by omega⟩
  | n + 1, S => by
    obtain ⟨m, hm, h⟩ := sb_ex n fun x => S (x + 1)
    have hp : 2 ^ (n + 1) = 2 * 2 ^ n := by rw [Nat.pow_succ, Nat.mul_comm]
    refine ⟨(bif S 0 then 1 else 0) + 2 * m, by cases S 0 <;> simp <;> omega, fun x hx => ?_⟩
    cases x with
    | zero =>
      unfold sb
      rw [Nat.pow_zero, Nat.div_one]
      cases S 0
      · show ((0 + 2 * m) % 2 == 1) = false
        have : (0 + 2 * m) % 2 = 0 := by omega
        rw [this]; rfl
      · show ((1 + 2 * m) % 2 == 1) = true
        have : (1 + 2 * m) % 2 = 1 := by omega
        rw [this]; rfl
    | succ x =>
      have := h x (by omega)
      unfold sb at this ⊢
      have e : ((bif S 0 then 1 else 0) + 2 * m) / 2 = m := by
        cases S 0
        · show (0 + 2 * m) / 2 = m; omega
        · show (1 + 2 * m) / 2 = m; omega
      rw [show 2 ^ (x + 1) = 2 * 2 ^ x from by rw [Nat.pow_succ, Nat.mul_comm], ← Nat.div_div_eq_div_mul, e]
      exact this
theorem cutV_congr {f : FK} (h : f.ok = true) {S T : Nat → Bool} (hST : ∀ x, x < f.sw.toNat → S x = T x) : cutV f S = cutV f T := by
  obtain ⟨-, h8, -, -, hdd, -⟩ := FK.ok_facts h
  have key : ∀ i, i ≤ f.ls.length → sumN (fun i => bif f.wk i && (S (f.la i) != S (f.lb i)) then (f.ls.getD i (0, 0, 0)).2.2 else 0) i = sumN (fun i => bif f.wk i && (T (f.la i) != T (f.lb i)) then (f.ls.getD i (0, 0, 0)).2.2 else 0) i := by
    intro i
    induction i with
    | zero => intro _; rfl
    | succ i ih =>
      intro hi
      obtain ⟨-, -, ha, hb, -⟩ := FK.ends h (show i < f.ls.length by omega)
      unfold sumN
      rw [ih (by omega), hST _ (show f.la i < f.sw.toNat by omega), hST _ (show f.lb i < f.sw.toNat by omega)]
  exact key _ (Nat.le_refl _)
theorem cutV_not (f : FK) (S : Nat → Bool) : cutV f (fun x => !S x) = cutV f S := by
  unfold cutV
  congr 1
  funext i
  have e : ((!S (f.la i)) != (!S (f.lb i))) = (S (f.la i) != S (f.lb i)) := by cases S (f.la i) <;> cases S (f.lb i) <;> rfl
  show (bif f.wk i && ((!S (f.la i)) != (!S (f.lb i))) then (f.ls.getD i (0, 0, 0)).2.2 else 0) = _
  rw [e]
theorem lcN_spec {f : FK} (h : f.ok = true) (a b : Nat) : ∀ k, (lcN f a b k = -1 ∧ ∀ m, m < k → ¬ (sb m a = true ∧ sb m b = false)) ∨ ((∃ m, m < k ∧ sb m a = true ∧ sb m b = false ∧ lcN f a b k = cutV f (sb m)) ∧ ∀ m, m < k → sb m a = true → sb m b = false → lcN f a b k ≤ cutV f (sb m))
  | 0 => .inl ⟨rfl, fun m hm => by omega⟩
  | k + 1 => by
    have e : lcN f a b (k + 1) = bif sb k a && !sb k b then (bif decide (lcN f a b k < 0) || decide (cutV f (sb k) < lcN f a b k) then cutV f (sb k) else lcN f a b k) else lcN f a b k := rfl
    have hnn := cutV_nn h (sb k)
    by_cases hs : sb k a = true ∧ sb k b = false
    · rw [hs.1, hs.2, Bool.not_false, Bool.and_self, cond_true] at e
      refine .inr ?_
      rcases lcN_spec h a b k with ⟨h1, h2⟩ | ⟨⟨m, m1, m2, m3, m4⟩, h2⟩
      · rw [h1, show decide ((-1 : Int) < 0) = true from rfl, Bool.true_or, cond_true] at e
        refine ⟨⟨k, by omega, hs.1, hs.2, e⟩, fun m hm s1 s2 => ?_⟩
        by_cases hmk : m = k
        · rw [hmk, e]; exact Int.le_refl _
        · exact absurd ⟨s1, s2⟩ (h2 m (by omega))
      · have hm0 := cutV_nn h (sb m)
        rw [show decide (lcN f a b k < 0) = false from decide_eq_false (by omega), Bool.false_or] at e
        by_cases hlt : cutV f (sb k) < lcN f a b k
        · rw [decide_eq_true hlt, cond_true] at e
          refine ⟨⟨k, by omega, hs.1, hs.2, e⟩, fun m hm s1 s2 => ?_⟩
          by_cases hmk : m = k
          · rw [hmk, e]; exact Int.le_refl _
          · have := h2 m (by omega) s1 s2
            omega
        · rw [decide_eq_false hlt, cond_false] at e
          refine ⟨⟨m, by omega, m2, m3, by rw [e, m4]⟩, fun m hm s1 s2 => ?_⟩
          by_cases hmk : m = k
          · rw [hmk, e]; omega
          · have := h2 m (by omega) s1 s2
            omega
    · have e2 : lcN f a b (k + 1) = lcN f a b k := by
        rw [e]
        cases q1 : sb k a with
        | false => rfl
        | true =>
          cases q2 : sb k b with
          | true => rfl
          | false => exact absurd ⟨q1, q2⟩ hs
      rw [e2]
      rcases lcN_spec h a b k with ⟨h1, h2⟩ | ⟨⟨m, m1, m2, m3, m4⟩, h2⟩
      · refine .inl ⟨h1, fun m hm => ?_⟩
        by_cases hmk : m = k
        · rw [hmk]; exact hs
        · exact h2 m (by omega)
      · refine .inr ⟨⟨m, by omega, m2, m3, m4⟩, fun m hm s1 s2 => ?_⟩
        by_cases hmk : m = k
        · rw [hmk] at s1 s2; exact absurd ⟨s1, s2⟩ hs
        · exact h2 m (by omega) s1 s2
theorem lcN_flow {f : FK} (h : f.ok = true) {a b : Nat} (ha : a < f.sw.toNat) (hb : b < f.sw.toNat) {r : Int} (h1 : ∀ S : Nat → Bool, S a = true → S b = false → r ≤ cutV f S) (h2 : ∃ S : Nat → Bool, S a = true ∧ S b = false ∧ r = cutV f S) : lcN f a b (2 ^ f.sw.toNat) = r := by
  obtain ⟨S, s1, s2, s3⟩ := h2
  obtain ⟨m, hm, hx⟩ := sb_ex f.sw.toNat S
  have ma := (hx a ha).trans s1
  have mb := (hx b hb).trans s2
  have hc := cutV_congr h hx
  rcases lcN_spec h a b (2 ^ f.sw.toNat) with ⟨_, q2⟩ | ⟨⟨k, k1, k2, k3, k4⟩, q2⟩
  · exact absurd ⟨ma, mb⟩ (q2 m hm)
  · have q3 := q2 m hm ma mb
    have q4 := h1 (sb k) k2 k3
    omega
/-- What both answer to any two numbers, in both directions. -/
theorem Flow_same {f : FK} (h : f.ok = true) (a b : Int) : ∃ r : Int, Spec Try.prog 27 [.agg f.A, .val (.int .i64 a), .val (.int .i64 b)] [] (.val (.int .i64 r)) [] ∧ Spec Try.prog 28 [.agg f.A, .val (.int .i64 a), .val (.int .i64 b)] [] (.val (.int .i64 r)) [] ∧ Spec Try.prog 27 [.agg f.A, .val (.int .i64 b), .val (.int .i64 a)] [] (.val (.int .i64 r)) [] := by
  by_cases hg : (a == b) = true ∨ f.al a = false ∨ f.al b = false
  · refine ⟨0, Flow0_spec h a b hg, rflow0_spec h a b hg, Flow0_spec h b a ?_⟩
    rcases hg with g | g | g
    · left; rw [beq_iff_eq] at g ⊢; exact g.symm
    · exact .inr (.inr g)
    · exact .inr (.inl g)
  · have hab : a ≠ b := fun e => hg (.inl (by rw [e]; simp))
    have ha : f.al a = true := by
      cases q : f.al a with
      | true => rfl
      | false => exact absurd (.inr (.inl q)) hg
    have hb : f.al b = true := by
      cases q : f.al b with
      | true => rfl
      | false => exact absurd (.inr (.inr q)) hg
    have nat : ∀ x : Int, f.al x = true → ∃ n : Nat, x = n := fun x hx => by
      simp only [FK.al, Bool.and_eq_true, decide_eq_true_eq] at hx
      exact ⟨x.toNat, by omega⟩
    obtain ⟨a, rfl⟩ := nat a ha
    obtain ⟨b, rfl⟩ := nat b hb
    have hne : a ≠ b := fun e => hab (by rw [e])
    obtain ⟨r, q1, q2, q3⟩ := Flow_cut h a b hne ha hb
    obtain ⟨r', p1, p2, p3⟩ := Flow_cut h b a (fun e => hne e.symm) hb ha
    have hrr : r' = r := by
      obtain ⟨S, s1, s2, s3⟩ := q3
      obtain ⟨T, t1, t2, t3⟩ := p3
      have u1 := q2 (fun x => !T x) (by rw [t2]; rfl) (by rw [t1]; rfl)
      have u2 := p2 (fun x => !S x) (by rw [s2]; rfl) (by rw [s1]; rfl)
      rw [cutV_not] at u1 u2
      omega
    have hl := lcN_flow h ((al_iff h).1 ha).1 ((al_iff h).1 hb).1 q2 q3
    have q4 := rflow_spec h a b hne ha hb
    rw [hl] at q4
    rw [hrr] at p1
    exact ⟨r, q1, q4, p1⟩
end Go.Proofs.Ytlmgbfbcaokedaa
