/-
  Layer 13: what the search finds. About lists only.
-/
import Derived.Test.YtlmgbfbcaokedaaFb13z
import Derived.Test.YtlmgbfbcaokedaaFb13t
namespace Go.Proofs.Ytlmgbfbcaokedaa
open Go.RowKit
/-- Each switch that is found has one before it, found earlier, from which something is left. -/
def tr (L : List Int) (a : Nat) (b : List Int) (rk : Nat → Nat) (c : Nat) : Prop :=
  b.length = 8 ∧ b.getD a 0 = (a : Int) ∧ rk a < c ∧ ∀ t, t < 8 → 0 ≤ b.getD t 0 → t ≠ a → ∃ s : Nat, b.getD t 0 = (s : Int) ∧ s < 8 ∧ 0 ≤ b.getD s 0 ∧ 0 < L.getD (s * 8 + t) 0 ∧ rk s < rk t ∧ rk t < c
/-- The switches to which something goes on from s are found. -/
def closed (L : List Int) (b : List Int) (s n : Nat) : Prop := ∀ t, t < n → 0 < L.getD (s * 8 + t) 0 → 0 ≤ b.getD t 0
theorem srT_tr {L : List Int} {a s : Nat} (ha : a < 8) (hs : s < 8) {b q : List Int} {rk : Nat → Nat} {c : Nat} (h : tr L a b rk c) (hsb : 0 ≤ b.getD s 0) (hsr : rk s < c) (hc : c + unf b ≤ 8) : ∀ n, n ≤ 8 →
    ∃ (rk' : Nat → Nat) (c' : Nat), tr L a (srT L s (b, q) n).1 rk' c' ∧ c' + unf (srT L s (b, q) n).1 ≤ 8 ∧ closed L (srT L s (b, q) n).1 s n ∧ (∀ t, t < 8 → 0 ≤ b.getD t 0 → 0 ≤ (srT L s (b, q) n).1.getD t 0 ∧ rk' t = rk t) ∧ c ≤ c' ∧
      (∀ t, t < 8 → 0 ≤ (srT L s (b, q) n).1.getD t 0 → 0 ≤ b.getD t 0 ∨ (t : Int) ∈ (srT L s (b, q) n).2) ∧ (∀ x ∈ q, x ∈ (srT L s (b, q) n).2) ∧ (∀ x ∈ (srT L s (b, q) n).2, x ∈ q ∨ ∃ t : Nat, x = t ∧ t < 8 ∧ 0 ≤ (srT L s (b, q) n).1.getD t 0 ∧ rk' t < c') ∧ ∀ t, t < 8 → rk t < c → rk' t < c'
  | 0, _ => ⟨rk, c, h, hc, fun t ht => by omega, fun t ht h0 => ⟨h0, rfl⟩, Nat.le_refl c, fun t ht h0 => .inl h0, fun x hx => hx, fun x hx => .inl hx, fun t _ h => h⟩
  | n + 1, hn => by
    obtain ⟨rk', c', h1, h2, h3, h4, h5, h6, h7, h8, h9⟩ := srT_tr (q := q) ha hs h hsb hsr hc n (by omega)
    show ∃ (rk' : Nat → Nat) (c' : Nat), tr L a (sr1 L s (srT L s (b, q) n) n).1 rk' c' ∧ c' + unf (sr1 L s (srT L s (b, q) n) n).1 ≤ 8 ∧ closed L (sr1 L s (srT L s (b, q) n) n).1 s (n + 1) ∧ (∀ t, t < 8 → 0 ≤ b.getD t 0 → 0 ≤ (sr1 L s (srT L s (b, q) n) n).1.getD t 0 ∧ rk' t = rk t) ∧ c ≤ c' ∧
      (∀ t, t < 8 → 0 ≤ (sr1 L s (srT L s (b, q) n) n).1.getD t 0 → 0 ≤ b.getD t 0 ∨ (t : Int) ∈ (sr1 L s (srT L s (b, q) n) n).2) ∧ (∀ x ∈ q, x ∈ (sr1 L s (srT L s (b, q) n) n).2) ∧ (∀ x ∈ (sr1 L s (srT L s (b, q) n) n).2, x ∈ q ∨ ∃ t : Nat, x = t ∧ t < 8 ∧ 0 ≤ (sr1 L s (srT L s (b, q) n) n).1.getD t 0 ∧ rk' t < c') ∧ ∀ t, t < 8 → rk t < c → rk' t < c'
    generalize srT L s (b, q) n = X at *
    obtain ⟨B, C⟩ := X
    dsimp only at *
    obtain ⟨t1, t2, t3, t4⟩ := h1
    have hsB := h4 s hs hsb
    unfold sr1
    rw [Int.toNat_natCast]
    cases hd : decide (B.getD n 0 < 0) && decide (0 < L.getD (8 * s + n) 0) with
    | false =>
      rw [cond_false]
      refine ⟨rk', c', ⟨t1, t2, t3, t4⟩, h2, fun t ht hL => ?_, h4, h5, h6, h7, h8, h9⟩
      by_cases htn : t = n
      · subst htn
        rw [Nat.mul_comm s 8] at hL
        rw [decide_eq_true hL, Bool.and_true] at hd
        have := of_decide_eq_false hd
        dsimp only
        omega
      · exact h3 t (by omega) hL
    | true =>
      simp only [Bool.and_eq_true, decide_eq_true_eq] at hd
      obtain ⟨hd1, hd2⟩ := hd
      rw [cond_true]
      dsimp only
      have hset : ∀ t, (B.set n (s : Int)).getD t 0 = if n = t ∧ t < 8 then (s : Int) else B.getD t 0 := fun t => by rw [getD_setI, t1]
      have hna : n ≠ a := fun e => by rw [e, t2] at hd1; omega
      have hnew : ∀ t, t < 8 → 0 ≤ B.getD t 0 → t ≠ n := fun t ht h0 e => by rw [e] at h0; omega
      have hun := unf_set (b := B) (t := n) (s := (s : Int)) (by omega) hd1 (by omega)
      refine ⟨fun t => if t = n then c' else rk' t, c' + 1, ⟨by simp [t1], ?_, ?_, fun t ht h0 hta => ?_⟩, by omega, fun t ht hL => ?_, fun t ht h0 => ?_, by omega, fun t ht h0 => ?_, fun x hx => List.mem_append_left _ (h7 x hx), fun x hx => ?_, fun t ht hrt => ?_⟩
      · rw [hset, if_neg (fun e => hna e.1)]; exact t2
      · show (if a = n then c' else rk' a) < c' + 1
        rw [if_neg (fun e => hna e.symm)]; omega
      · by_cases htn : t = n
        · subst htn
          refine ⟨s, by rw [hset, if_pos ⟨rfl, ht⟩], hs, ?_, by rw [Nat.mul_comm s 8]; exact hd2, ?_, ?_⟩
          · rw [hset]; split <;> omega
          · show (if s = t then c' else rk' s) < (if t = t then c' else rk' t)
            rw [if_neg (hnew s hs hsB.1), if_pos rfl, hsB.2]
            omega
          · show (if t = t then c' else rk' t) < c' + 1
            rw [if_pos rfl]; omega
        · rw [hset, if_neg (fun e => htn e.1.symm)] at h0 ⊢
          obtain ⟨u, u1, u2, u3, u4, u5, u6⟩ := t4 t ht h0 hta
          refine ⟨u, u1, u2, by rw [hset]; split <;> omega, u4, ?_, ?_⟩
          · show (if u = n then c' else rk' u) < (if t = n then c' else rk' t)
            rw [if_neg (hnew u u2 u3), if_neg htn]; exact u5
          · show (if t = n then c' else rk' t) < c' + 1
            rw [if_neg htn]; omega
      · rw [hset]
        by_cases htn : t = n
        · subst htn
          rw [if_pos ⟨rfl, by omega⟩]; omega
        · rw [if_neg (fun e => htn e.1.symm)]
          exact h3 t (by omega) hL
      · obtain ⟨q1, q2⟩ := h4 t ht h0
        refine ⟨by rw [hset]; split <;> omega, ?_⟩
        show (if t = n then c' else rk' t) = rk t
        rw [if_neg (hnew t ht q1)]; exact q2
      · by_cases htn : t = n
        · subst htn; exact .inr (by simp)
        · rw [hset, if_neg (fun e => htn e.1.symm)] at h0
          exact (h6 t ht h0).imp id (List.mem_append_left _)
      · rcases List.mem_append.1 hx with hx | hx
        · rcases h8 x hx with h | ⟨t, e1, e2, e3, e4⟩
          · exact .inl h
          · refine .inr ⟨t, e1, e2, by rw [hset]; split <;> omega, ?_⟩
            show (if t = n then c' else rk' t) < c' + 1
            split <;> omega
        · simp only [List.mem_singleton] at hx
          refine .inr ⟨n, hx, by omega, by rw [hset, if_pos ⟨rfl, by omega⟩]; omega, ?_⟩
          show (if n = n then c' else rk' n) < c' + 1
          rw [if_pos rfl]; omega
      · show (if t = n then c' else rk' t) < c' + 1
        have := h9 t ht hrt
        split <;> omega
/-- The search's answer. -/
theorem srF_tr {L : List Int} {a : Nat} (ha : a < 8) : ∀ (m : Nat) (b q : List Int) (rk : Nat → Nat) (c : Nat), tr L a b rk c → c + unf b ≤ 8 → q.length + unf b ≤ m → (∀ x ∈ q, ∃ t : Nat, x = t ∧ t < 8 ∧ 0 ≤ b.getD t 0 ∧ rk t < c) → (∀ t : Nat, t < 8 → 0 ≤ b.getD t 0 → (t : Int) ∈ q ∨ closed L b t 8) →
    ∃ (rk' : Nat → Nat) (c' : Nat), tr L a (srF L m b q) rk' c' ∧ c' ≤ 8 ∧ ∀ t, t < 8 → 0 ≤ (srF L m b q).getD t 0 → closed L (srF L m b q) t 8
  | 0, b, q, rk, c, h, hc, hm, hq, hcl => by
    have hq0 : q = [] := List.eq_nil_of_length_eq_zero (by omega)
    subst hq0
    exact ⟨rk, c, h, by omega, fun t ht h0 => (hcl t ht h0).resolve_left (by simp)⟩
  | m + 1, b, q, rk, c, h, hc, hm, hq, hcl => by
    cases q with
    | nil => exact ⟨rk, c, h, by omega, fun t ht h0 => (hcl t ht h0).resolve_left (by simp)⟩
    | cons s q =>
      obtain ⟨s, rfl, hs, hsb, hsr⟩ := hq _ List.mem_cons_self
      show ∃ (rk' : Nat → Nat) (c' : Nat), tr L a (srF L m (srT L s (b, q) 8).1 (srT L s (b, q) 8).2) rk' c' ∧ c' ≤ 8 ∧ ∀ t, t < 8 → 0 ≤ (srF L m (srT L s (b, q) 8).1 (srT L s (b, q) 8).2).getD t 0 → closed L (srF L m (srT L s (b, q) 8).1 (srT L s (b, q) 8).2) t 8
      obtain ⟨rk', c', h1, h2, h3, h4, h5, h6, h7, h8, h9⟩ := srT_tr (q := q) ha hs h hsb hsr hc 8 (Nat.le_refl 8)
      have hq8 : ∀ y ∈ q, 0 ≤ y ∧ y < 8 := fun y hy => by
        obtain ⟨t, e1, e2, _⟩ := hq y (List.mem_cons_of_mem _ hy)
        omega
      obtain ⟨i1, i2, i3⟩ := srT_inv L (s : Int) (by omega) (by omega) (b, q) h.1 hq8 8 (Nat.le_refl 8)
      dsimp only at i3
      refine srF_tr ha m _ _ rk' c' h1 h2 (by simp only [List.length_cons] at hm; omega) (fun x hx => ?_) fun t ht h0 => ?_
      · rcases h8 x hx with hx | hx
        · obtain ⟨t, e1, e2, e3, e4⟩ := hq x (List.mem_cons_of_mem _ hx)
          exact ⟨t, e1, e2, (h4 t e2 e3).1, h9 t e2 e4⟩
        · exact hx
      · rcases h6 t ht h0 with hb | hb
        · rcases hcl t ht hb with hx | hx
          · rcases List.mem_cons.1 hx with hx | hx
            · have : t = s := by omega
              subst this
              exact .inr h3
            · exact .inl (h7 _ hx)
          · exact .inr fun u hu hL => (h4 u hu (hx u hu hL)).1
        · exact .inl hb
theorem srZ_tr {L : List Int} {a : Nat} (ha : a < 8) : ∃ (rk : Nat → Nat) (c : Nat), tr L a (srZ L a) rk c ∧ c ≤ 8 ∧ ∀ t, t < 8 → 0 ≤ (srZ L a).getD t 0 → closed L (srZ L a) t 8 := by
  have hset : ∀ t, ((List.replicate 8 (-1 : Int)).set a a).getD t 0 = if a = t ∧ t < 8 then (a : Int) else (List.replicate 8 (-1 : Int)).getD t 0 := fun t => by rw [getD_setI]; simp
  have hneg : ∀ t, t < 8 → (List.replicate 8 (-1 : Int)).getD t 0 = -1 := fun t ht => by
    rw [List.getD_eq_getElem?_getD, List.getElem?_replicate, if_pos ht]; rfl
  have hun : unf ((List.replicate 8 (-1 : Int)).set a a) ≤ 7 := by
    have hall : ∀ x : Fin 8, unf ((List.replicate 8 (-1 : Int)).set x ((x : Nat) : Int)) ≤ 7 := by decide
    exact hall ⟨a, ha⟩
  refine srF_tr ha 8 _ _ (fun _ => 0) 1 ⟨by simp, by rw [hset, if_pos ⟨rfl, ha⟩], Nat.zero_lt_one, fun t ht h0 hta => ?_⟩ (by omega) (by simp only [List.length_singleton]; omega) (fun x hx => ?_) fun t ht h0 => ?_
  · exfalso
    rw [hset, if_neg (fun e => hta e.1.symm), hneg t ht] at h0
    omega
  · simp only [List.mem_singleton] at hx
    exact ⟨a, hx, ha, by rw [hset, if_pos ⟨rfl, ha⟩]; omega, by omega⟩
  · by_cases hta : t = a
    · subst hta; exact .inl (by simp)
    · exfalso
      rw [hset, if_neg (fun e => hta e.1.symm), hneg t ht] at h0
      omega
/-- The way back, without repeats, along which something is left. -/
theorem way_ex {L : List Int} {a : Nat} {b : List Int} {rk : Nat → Nat} {c : Nat} (h : tr L a b rk c) : ∀ (n t : Nat), rk t < n → t < 8 → 0 ≤ b.getD t 0 → ∃ p : List Nat, isP b a p t ∧ p.length ≤ n ∧ (∀ x ∈ p, x < 8 ∧ rk x ≤ rk t ∧ 0 < L.getD (pv b x * 8 + x) 0) ∧ p.Nodup
  | 0, t, hn, _, _ => by omega
  | n + 1, t, hn, ht, h0 => by
    by_cases hta : t = a
    · exact ⟨[], hta, by simp, by simp, List.nodup_nil⟩
    · obtain ⟨h1, h2, h3, h4⟩ := h
      obtain ⟨s, s1, s2, s3, s4, s5, s6⟩ := h4 t ht h0 hta
      obtain ⟨p, p1, p2, p3, p4⟩ := way_ex ⟨h1, h2, h3, h4⟩ n s (by omega) s2 s3
      have hpv : pv b t = s := by unfold pv; rw [s1]; rfl
      refine ⟨t :: p, ⟨rfl, hta, ht, s, s1, s2, p1⟩, by simp only [List.length_cons]; omega, fun x hx => ?_, List.nodup_cons.2 ⟨fun hx => ?_, p4⟩⟩
      · rcases List.mem_cons.1 hx with rfl | hx
        · exact ⟨ht, Nat.le_refl _, by rw [hpv]; exact s4⟩
        · obtain ⟨x1, x2, x3⟩ := p3 x hx
          exact ⟨x1, by omega, x3⟩
      · have := (p3 t hx).2.1
        omega
end Go.Proofs.Ytlmgbfbcaokedaa
