/-
  Layer 13: what the distances are: the least numbers of steps. About lists only.
-/
import Derived.Test.YtpdiainbcekpiaaFb13d
namespace Go.Proofs.Ytpdiainbcekpiaa
open Go.RowKit
/-- Joined by a link of the list. -/
def adj (f : FK) (L : List Int) (x y : Nat) : Prop := ∃ i ∈ L, (f.la i.toNat = x ∧ f.lb i.toNat = y) ∨ (f.la i.toNat = y ∧ f.lb i.toNat = x)
theorem adj_symm {f : FK} {L : List Int} {x y : Nat} (h : adj f L x y) : adj f L y x := by
  obtain ⟨i, hi, h⟩ := h
  exact ⟨i, hi, h.symm⟩
/-- A way of so many steps. -/
def wlk (f : FK) (L : List Int) : Nat → Nat → Nat → Prop
  | 0, x, y => x = y
  | n + 1, x, y => ∃ z, wlk f L n x z ∧ adj f L z y
theorem wlk_head {f : FK} {L : List Int} : ∀ {n x y z : Nat}, adj f L x y → wlk f L n y z → wlk f L (n + 1) x z
  | 0, x, y, z, h, hw => by
    have : y = z := hw
    subst this
    exact ⟨x, rfl, h⟩
  | n + 1, x, y, z, h, ⟨u, hu, ha⟩ => ⟨u, wlk_head h hu, ha⟩
theorem wlk_symm {f : FK} {L : List Int} : ∀ {n x y : Nat}, wlk f L n x y → wlk f L n y x
  | 0, x, y, h => Eq.symm h
  | n + 1, x, y, ⟨z, hz, ha⟩ => wlk_head (adj_symm ha) (wlk_symm hz)
theorem wlk_trans {f : FK} {L : List Int} : ∀ {n m x y z : Nat}, wlk f L n x y → wlk f L m y z → wlk f L (n + m) x z
  | n, 0, x, y, z, h, hw => by
    have : y = z := hw
    subst this
    exact h
  | n, m + 1, x, y, z, h, ⟨u, hu, ha⟩ => ⟨u, wlk_trans h hu, ha⟩
theorem wlk_mono {f g : FK} {L M : List Int} (h : ∀ x y, adj f L x y → adj g M x y) : ∀ {n x y : Nat}, wlk f L n x y → wlk g M n x y
  | 0, x, y, hw => hw
  | n + 1, x, y, ⟨z, hz, ha⟩ => ⟨z, wlk_mono h hz, h _ _ ha⟩
/-- The distances up to m are right. -/
def dOk (f : FK) (L : List Int) (to m : Nat) (d : List Int) : Prop := d.length = 8 ∧ ∀ v, v < 8 → (d.getD v 0 = -1 ∧ ∀ j, j ≤ m → ¬ wlk f L j to v) ∨ (∃ k : Nat, d.getD v 0 = (k : Int) ∧ k ≤ m ∧ wlk f L k to v ∧ ∀ j, j < k → ¬ wlk f L j to v)
theorem getD_setI (L : List Int) (i j : Nat) (v : Int) : (L.set i v).getD j 0 = if i = j ∧ j < L.length then v else L.getD j 0 := by
  simp only [List.getD_eq_getElem?_getD, List.getElem?_set]
  by_cases h : i = j
  · subst h
    by_cases h2 : i < L.length
    · simp [h2]
    · simp [h2]
  · simp [h]
/-- Within a round. -/
def rOk (f : FK) (M : List Int) (m : Nat) (d d' : List Int) : Prop := d'.length = 8 ∧ ∀ v, v < 8 → (d.getD v 0 ≠ -1 → d'.getD v 0 = d.getD v 0) ∧ (d.getD v 0 = -1 → (d'.getD v 0 = -1 ∧ ∀ x, x < 8 → d.getD x 0 = (m : Int) → ¬ adj f M x v) ∨ (d'.getD v 0 = (m : Int) + 1 ∧ ∃ x, x < 8 ∧ d.getD x 0 = (m : Int) ∧ adj f M x v))
theorem rx1_at {m : Int} {a b : Nat} {d : List Int} (hd : d.length = 8) (hb : b < 8) (v : Nat) : (rx1 m a b d).getD v 0 = if d.getD a 0 = m ∧ d.getD b 0 < 0 ∧ b = v then m + 1 else d.getD v 0 := by
  unfold rx1
  cases h : (d.getD a 0 == m) && decide (d.getD b 0 < 0) with
  | true =>
    simp only [Bool.and_eq_true, beq_iff_eq, decide_eq_true_eq] at h
    rw [cond_true, getD_setI]
    by_cases hv : b = v
    · subst hv
      rw [if_pos ⟨rfl, by omega⟩, if_pos ⟨h.1, h.2, rfl⟩]
    · rw [if_neg (fun q => hv q.1), if_neg (fun q => hv q.2.2)]
  | false =>
    rw [cond_false, if_neg]
    rintro ⟨h1, h2, -⟩
    have h3 : decide (d.getD b 0 < 0) = true := by simpa using h2
    rw [h1, h3] at h
    simp at h
theorem adj_snoc {f : FK} {M : List Int} {i : Int} {x y : Nat} : adj f (M ++ [i]) x y ↔ adj f M x y ∨ (f.la i.toNat = x ∧ f.lb i.toNat = y) ∨ (f.la i.toNat = y ∧ f.lb i.toNat = x) := by
  constructor
  · rintro ⟨j, hj, h⟩
    rcases List.mem_append.1 hj with hj | hj
    · exact .inl ⟨j, hj, h⟩
    · simp only [List.mem_singleton] at hj
      subst hj
      exact .inr h
  · rintro (⟨j, hj, h⟩ | h)
    · exact ⟨j, List.mem_append_left _ hj, h⟩
    · exact ⟨i, by simp, h⟩
theorem rOk_step {f : FK} {M : List Int} {m : Nat} {d d' : List Int} (hm : ∀ v, v < 8 → d.getD v 0 = -1 ∨ (0 ≤ d.getD v 0 ∧ d.getD v 0 ≤ m)) (i : Int) (ha : f.la i.toNat < 8) (hb : f.lb i.toNat < 8) (h : rOk f M m d d') : rOk f (M ++ [i]) m d (rx m (f.la i.toNat) (f.lb i.toNat) d') := by
  obtain ⟨hl, h⟩ := h
  refine ⟨by simp [hl], fun v hv => ?_⟩
  generalize hA : f.la i.toNat = a at *
  generalize hB : f.lb i.toNat = b at *
  have hl1 : (rx1 (m : Int) a b d').length = 8 := by simp [hl]
  have hadj : ∀ x y, adj f (M ++ [i]) x y ↔ adj f M x y ∨ (a = x ∧ b = y) ∨ (a = y ∧ b = x) := fun x y => by rw [adj_snoc, hA, hB]
  have eq : ∀ x, x < 8 → (d'.getD x 0 = (m : Int) ↔ d.getD x 0 = (m : Int)) := fun x hx => by
    obtain ⟨h1, h2⟩ := h x hx
    rcases hm x hx with q | q
    · rcases h2 q with ⟨e, _⟩ | ⟨e, _⟩ <;> rw [e, q] <;> omega
    · rw [h1 (by omega)]
  unfold rx
  rw [rx1_at hl1 ha]
  have e1 := rx1_at (m := m) (a := a) hl hb
  obtain ⟨h1, h2⟩ := h v hv
  obtain ⟨a1, a2⟩ := h a ha
  obtain ⟨b1, b2⟩ := h b hb
  have qa := eq a ha
  have qb := eq b hb
  have na := hm a ha
  have nb := hm b hb
  have nv := hm v hv
  rw [e1 b, e1 a, e1 v]
  constructor
  · intro hne
    have e2 := h1 hne
    have e3 : ¬ (d'.getD v 0 < 0) := by omega
    rw [if_neg (fun q => by obtain ⟨-, q2, q3⟩ := q; subst q3; split at q2 <;> omega), if_neg (fun q => by obtain ⟨-, q2, q3⟩ := q; subst q3; exact e3 q2)]
    exact e2
  · intro he
    rcases h2 he with ⟨g1, g2⟩ | ⟨g1, g2⟩
    · by_cases hav : d.getD a 0 = (m : Int) ∧ b = v
      · obtain ⟨q1, q2⟩ := hav
        subst q2
        refine .inr ⟨?_, a, ha, q1, (hadj a b).2 (.inr (.inl ⟨rfl, rfl⟩))⟩
        have q3 : d'.getD a 0 = (m : Int) := qa.2 q1
        have q4 : d'.getD b 0 < 0 := by omega
        rw [if_pos (show d'.getD a 0 = (m : Int) ∧ d'.getD b 0 < 0 ∧ b = b from ⟨q3, q4, rfl⟩)]
        exact ite_self _
      · by_cases hbv : d.getD b 0 = (m : Int) ∧ a = v
        · obtain ⟨q1, q2⟩ := hbv
          subst q2
          refine .inr ⟨?_, b, hb, q1, (hadj b a).2 (.inr (.inr ⟨rfl, rfl⟩))⟩
          have q3 : d'.getD b 0 = (m : Int) := qb.2 q1
          have q4 : d'.getD a 0 < 0 := by omega
          have q5 : ¬ (d'.getD b 0 < 0) := by omega
          rw [if_neg (show ¬ (d'.getD a 0 = (m : Int) ∧ d'.getD b 0 < 0 ∧ b = b) from fun q => q5 q.2.1), if_neg (show ¬ (d'.getD a 0 = (m : Int) ∧ d'.getD b 0 < 0 ∧ b = a) from fun q => q5 q.2.1), if_pos (show d'.getD b 0 = (m : Int) ∧ d'.getD a 0 < 0 ∧ a = a from ⟨q3, q4, rfl⟩)]
        · refine .inl ⟨?_, fun x hx hxm hx2 => ?_⟩
          · rw [if_neg, if_neg]
            · exact g1
            · rintro ⟨q1, -, q3⟩
              exact hav ⟨qa.1 q1, q3⟩
            · rintro ⟨q1, -, q3⟩
              refine hbv ⟨?_, q3⟩
              split at q1
              · omega
              · exact qb.1 q1
          · rcases (hadj x v).1 hx2 with q | ⟨rfl, q⟩ | ⟨q, rfl⟩
            · exact g2 x hx hxm q
            · exact hav ⟨hxm, q⟩
            · exact hbv ⟨hxm, q⟩
    · refine .inr ⟨?_, ?_⟩
      · have e3 : ¬ (d'.getD v 0 < 0) := by omega
        rw [if_neg (fun q => by obtain ⟨-, q2, q3⟩ := q; subst q3; split at q2 <;> omega), if_neg (fun q => by obtain ⟨-, q2, q3⟩ := q; subst q3; exact e3 q2)]
        exact g1
      · obtain ⟨x, hx, hxm, hx2⟩ := g2
        exact ⟨x, hx, hxm, (hadj x v).2 (.inl hx2)⟩
theorem rOk_all {f : FK} {m : Nat} {d : List Int} (hd : d.length = 8) (hm : ∀ v, v < 8 → d.getD v 0 = -1 ∨ (0 ≤ d.getD v 0 ∧ d.getD v 0 ≤ m)) (L : List Int) (hL : ∀ i ∈ L, f.la i.toNat < 8 ∧ f.lb i.toNat < 8) : rOk f L m d (rxL f m L d) := by
  have key : ∀ (N M d' : List Int), (∀ i ∈ N, f.la i.toNat < 8 ∧ f.lb i.toNat < 8) → rOk f M m d d' → rOk f (M ++ N) m d (rxL f m N d') := by
    intro N
    induction N with
    | nil => intro M d' _ h; rw [List.append_nil]; exact h
    | cons i N ih =>
      intro M d' hN h
      have h1 := rOk_step hm i (hN i List.mem_cons_self).1 (hN i List.mem_cons_self).2 h
      have h2 := ih (M ++ [i]) _ (fun j hj => hN j (List.mem_cons_of_mem _ hj)) h1
      rw [List.append_assoc] at h2
      exact h2
  refine key L [] d hL ⟨hd, fun v hv => ⟨fun _ => rfl, fun h => .inl ⟨h, fun x _ _ hx => ?_⟩⟩⟩
  obtain ⟨j, hj, _⟩ := hx
  cases hj
theorem dOk_range {f : FK} {L : List Int} {to m : Nat} {d : List Int} (h : dOk f L to m d) : ∀ v, v < 8 → d.getD v 0 = -1 ∨ (0 ≤ d.getD v 0 ∧ d.getD v 0 ≤ m) := fun v hv => by
  rcases h.2 v hv with ⟨h1, _⟩ | ⟨k, h1, h2, _⟩
  · exact .inl h1
  · exact .inr (by omega)
theorem wlk_lt {f : FK} {L : List Int} (hL : ∀ i ∈ L, f.la i.toNat < 8 ∧ f.lb i.toNat < 8) {n x y : Nat} (hx : x < 8) (h : wlk f L n x y) : y < 8 := by
  cases n with
  | zero =>
    have : x = y := h
    omega
  | succ n =>
    obtain ⟨z, _, i, hi, h⟩ := h
    have := hL i hi
    omega
theorem dOk_step {f : FK} {L : List Int} {to m : Nat} {d : List Int} (hL : ∀ i ∈ L, f.la i.toNat < 8 ∧ f.lb i.toNat < 8) (hto : to < 8) (h : dOk f L to m d) : dOk f L to (m + 1) (rxL f m L d) := by
  have hr := rOk_all h.1 (dOk_range h) L hL
  refine ⟨hr.1, fun v hv => ?_⟩
  obtain ⟨r1, r2⟩ := hr.2 v hv
  rcases h.2 v hv with ⟨h1, h2⟩ | ⟨k, h1, h2, h3, h4⟩
  · rcases r2 h1 with ⟨g1, g2⟩ | ⟨g1, x, hx, hxm, hxv⟩
    · refine .inl ⟨g1, fun j hj hw => ?_⟩
      by_cases hjm : j ≤ m
      · exact h2 j hjm hw
      · have : j = m + 1 := by omega
        subst this
        obtain ⟨z, hz, ha⟩ := hw
        have hz8 : z < 8 := wlk_lt hL hto hz
        refine g2 z hz8 ?_ ha
        rcases h.2 z hz8 with ⟨q1, q2⟩ | ⟨k, q1, q2, q3, q4⟩
        · exact absurd hz (q2 m (Nat.le_refl m))
        · by_cases hk : k = m
          · rw [q1, hk]
          · exact absurd ⟨z, q3, ha⟩ (h2 (k + 1) (by omega))
    · refine .inr ⟨m + 1, by rw [g1]; omega, Nat.le_refl _, ?_, fun j hj => h2 j (by omega)⟩
      rcases h.2 x hx with ⟨q1, _⟩ | ⟨k, q1, q2, q3, q4⟩
      · omega
      · have : k = m := by omega
        subst this
        exact ⟨x, q3, hxv⟩
  · refine .inr ⟨k, by rw [r1 (by omega)]; exact h1, by omega, h3, h4⟩
theorem dOk_zero (f : FK) (L : List Int) {to : Nat} (hto : to < 8) : dOk f L to 0 ((List.replicate 8 (-1)).set to 0) := by
  refine ⟨by simp, fun v hv => ?_⟩
  rw [getD_setI]
  by_cases h : to = v
  · subst h
    exact .inr ⟨0, by simp [hto], Nat.le_refl 0, rfl, fun j hj => by omega⟩
  · refine .inl ⟨?_, fun j hj hw => ?_⟩
    · rw [if_neg (fun q => h q.1), List.getD_eq_getElem?_getD, List.getElem?_replicate, if_pos hv]
      rfl
    · have : j = 0 := by omega
      subst this
      exact h hw
theorem dOk_rxN {f : FK} {L : List Int} (hL : ∀ i ∈ L, f.la i.toNat < 8 ∧ f.lb i.toNat < 8) {to : Nat} (hto : to < 8) : ∀ m, dOk f L to m (rxN f L m ((List.replicate 8 (-1)).set to 0))
  | 0 => dOk_zero f L hto
  | m + 1 => dOk_step hL hto (dOk_rxN hL hto m)
/-- How many have no distance. -/
def nod (d : List Int) : Nat := d.countP fun x => decide (x < 0)
theorem nod_le : ∀ {d d' : List Int}, d.length = d'.length → (∀ v, v < d.length → 0 ≤ d.getD v 0 → 0 ≤ d'.getD v 0) → nod d' ≤ nod d
  | [], [], _, _ => Nat.le_refl _
  | x :: d, y :: d', hl, h => by
    have ih := nod_le (d := d) (d' := d') (by simpa using hl) fun v hv hd => by
      have := h (v + 1) (by simp; omega)
      simp only [List.getD_cons_succ] at this
      exact this hd
    have h0 := h 0 (by simp)
    simp only [List.getD_cons_zero] at h0
    unfold nod at *
    simp only [List.countP_cons, decide_eq_true_eq]
    split <;> split <;> omega
theorem nod_lt : ∀ {d d' : List Int}, d.length = d'.length → (∀ v, v < d.length → 0 ≤ d.getD v 0 → 0 ≤ d'.getD v 0) → ∀ v, v < d.length → d.getD v 0 < 0 → 0 ≤ d'.getD v 0 → nod d' + 1 ≤ nod d
  | [], _, _, _, v, hv, _, _ => by simp at hv
  | x :: d, [], hl, _, _, _, _, _ => by simp at hl
  | x :: d, y :: d', hl, h, v, hv, h1, h2 => by
    have hs : ∀ v, v < d.length → 0 ≤ d.getD v 0 → 0 ≤ d'.getD v 0 := fun v hv hd => by
      have := h (v + 1) (by simp; omega)
      simp only [List.getD_cons_succ] at this
      exact this hd
    have h0 := h 0 (by simp)
    simp only [List.getD_cons_zero] at h0
    cases v with
    | zero =>
      simp only [List.getD_cons_zero] at h1 h2
      have ih := nod_le (d := d) (d' := d') (by simpa using hl) hs
      unfold nod at *
      simp only [List.countP_cons, decide_eq_true_eq]
      rw [if_neg (by omega), if_pos h1]
      omega
    | succ v =>
      simp only [List.getD_cons_succ, List.length_cons] at h1 h2 hv
      have ih := nod_lt (d := d) (d' := d') (by simpa using hl) hs v (by omega) h1 h2
      unfold nod at *
      simp only [List.countP_cons, decide_eq_true_eq]
      split <;> split <;> omega
theorem nod_ge {d : List Int} (hd : d.length = 8) {n : Nat} (hn : n ≤ 8) (h : ∀ v, n ≤ v → v < 8 → d.getD v 0 < 0) : 8 - n ≤ nod d := by
  have h1 := nod_le (d := d) (d' := List.replicate n 0 ++ List.replicate (8 - n) (-1)) (by simp; omega) fun v hv h0 => by
    have hvn : v < n := by
      by_cases hvn : v < n
      · exact hvn
      · have := h v (by omega) (by omega)
        omega
    rw [List.getD_eq_getElem?_getD, List.getElem?_append_left (by simpa using hvn), List.getElem?_replicate, if_pos hvn]
    exact Int.le_refl 0
  have h2 : nod (List.replicate n 0 ++ List.replicate (8 - n) (-1)) = 8 - n := by
    unfold nod
    rw [List.countP_append, List.countP_replicate, List.countP_replicate]
    simp
  omega
theorem nod_round {f : FK} {L : List Int} (hL : ∀ i ∈ L, f.la i.toNat < 8 ∧ f.lb i.toNat < 8) {to : Nat} (hto : to < 8) : ∀ m v, v < 8 → (rxN f L m ((List.replicate 8 (-1)).set to 0)).getD v 0 = (m : Int) → nod (rxN f L m ((List.replicate 8 (-1)).set to 0)) + (m + 1) ≤ 8
  | 0, v, hv, h => by
    have h1 := nod_lt (d := List.replicate 8 (-1)) (d' := (List.replicate 8 (-1)).set to 0) (by simp) (fun v hv h0 => by
      exfalso
      rw [List.getD_eq_getElem?_getD, List.getElem?_replicate, if_pos (by simpa using hv)] at h0
      simp at h0) to (by simpa using hto) (by rw [List.getD_eq_getElem?_getD, List.getElem?_replicate, if_pos hto]; decide) (by rw [getD_setI, if_pos ⟨rfl, by simpa using hto⟩]; exact Int.le_refl 0)
    have h2 : nod (List.replicate 8 (-1)) = 8 := by decide
    show nod ((List.replicate 8 (-1)).set to 0) + 1 ≤ 8
    omega
  | m + 1, v, hv, h => by
    have hd := dOk_rxN hL hto m
    have hr := rOk_all hd.1 (dOk_range hd) L hL
    have hs : rxN f L (m + 1) ((List.replicate 8 (-1)).set to 0) = rxL f m L (rxN f L m ((List.replicate 8 (-1)).set to 0)) := rfl
    rw [hs] at h ⊢
    have ih0 := nod_round hL hto m
    generalize rxN f L m ((List.replicate 8 (-1)).set to 0) = d at *
    obtain ⟨r1, r2⟩ := hr.2 v hv
    have hv1 : d.getD v 0 = -1 := by
      rcases dOk_range hd v hv with q | q
      · exact q
      · have := r1 (by omega)
        omega
    rcases r2 hv1 with ⟨g1, _⟩ | ⟨g1, x, hx, hxm, _⟩
    · omega
    · have ih : nod d + (m + 1) ≤ 8 := ih0 x hx hxm
      have := nod_lt (d := d) (d' := rxL f m L d) (by rw [hd.1, hr.1]) (fun u hu h0 => by
        have := (hr.2 u (by rw [hd.1] at hu; exact hu)).1 (by omega)
        omega) v (by rw [hd.1]; exact hv) (by omega) (by omega)
      omega
/-- What the distances to a switch are. -/
def isD (f : FK) (L : List Int) (to : Nat) (n : Nat) (d : List Int) : Prop := d.length = 8 ∧ ∀ v, v < 8 → (d.getD v 0 = -1 ∧ ∀ j, ¬ wlk f L j to v) ∨ (∃ k : Nat, d.getD v 0 = (k : Int) ∧ k < n ∧ wlk f L k to v ∧ ∀ j, j < k → ¬ wlk f L j to v)
theorem wlk_ltn {f : FK} {L : List Int} {n : Nat} (hL : ∀ i ∈ L, f.la i.toNat < n ∧ f.lb i.toNat < n) {j x y : Nat} (hx : x < n) (h : wlk f L j x y) : y < n := by
  cases j with
  | zero =>
    have : x = y := h
    omega
  | succ j =>
    obtain ⟨z, _, i, hi, h⟩ := h
    have := hL i hi
    omega
theorem isD_rxN {f : FK} {L : List Int} {n : Nat} (hn : n ≤ 8) (hL : ∀ i ∈ L, f.la i.toNat < n ∧ f.lb i.toNat < n) {to : Nat} (hto : to < n) : isD f L to n (rxN f L n ((List.replicate 8 (-1)).set to 0)) := by
  have hL8 : ∀ i ∈ L, f.la i.toNat < 8 ∧ f.lb i.toNat < 8 := fun i hi => by have := hL i hi; omega
  have hd := dOk_rxN hL8 (show to < 8 by omega) n
  have hno : ∀ v, v < 8 → (rxN f L n ((List.replicate 8 (-1)).set to 0)).getD v 0 ≠ (n : Int) := fun v hv h => by
    have h1 := nod_round hL8 (show to < 8 by omega) n v hv h
    have h2 := nod_ge hd.1 hn fun u hu1 hu2 => by
      rcases hd.2 u hu2 with ⟨q, _⟩ | ⟨k, _, _, q, _⟩
      · omega
      · have := wlk_ltn hL hto q
        omega
    omega
  generalize rxN f L n ((List.replicate 8 (-1)).set to 0) = d at *
  have hall : ∀ j v, wlk f L j to v → v < 8 → d.getD v 0 ≠ -1 := by
    intro j
    induction j with
    | zero =>
      intro v hw hv
      rcases hd.2 v hv with ⟨_, q⟩ | ⟨k, q, _⟩
      · exact absurd hw (q 0 (Nat.zero_le _))
      · omega
    | succ j ih =>
      rintro v ⟨z, hz, ha⟩ hv
      have hz8 : z < 8 := wlk_lt hL8 (by omega) hz
      rcases hd.2 z hz8 with ⟨q, _⟩ | ⟨k, q1, q2, q3, _⟩
      · exact absurd q (ih z hz hz8)
      · have := hno z hz8
        have hk : k < n := by
          by_cases hk : k = n
          · rw [hk] at q1; exact absurd q1 this
          · omega
        rcases hd.2 v hv with ⟨_, q⟩ | ⟨k, q, _⟩
        · exact absurd ⟨z, q3, ha⟩ (q (k + 1) (by omega))
        · omega
  refine ⟨hd.1, fun v hv => ?_⟩
  rcases hd.2 v hv with ⟨q, _⟩ | ⟨k, q1, q2, q3, q4⟩
  · exact .inl ⟨q, fun j hw => hall j v hw hv q⟩
  · refine .inr ⟨k, q1, ?_, q3, q4⟩
    have := hno v hv
    by_cases hk : k = n
    · rw [hk] at q1; exact absurd q1 this
    · omega
/-- The working links as a graph. -/
abbrev wls (f : FK) : List Int := wkL f f.ls.length
theorem mem_wkL {f : FK} {n : Nat} {i : Int} : i ∈ wkL f n ↔ ∃ j : Nat, i = j ∧ j < n ∧ f.wk j = true := by
  unfold wkL
  simp only [List.mem_map, List.mem_filter, List.mem_range]
  constructor
  · rintro ⟨j, ⟨h1, h2⟩, rfl⟩
    exact ⟨j, rfl, h1, h2⟩
  · rintro ⟨j, rfl, h1, h2⟩
    exact ⟨j, ⟨h1, h2⟩, rfl⟩
theorem adj_al {f : FK} (h : f.ok = true) {L : List Int} (hL : ∀ i ∈ L, i ∈ wls f) {x y : Nat} (ha : adj f L x y) : f.al x = true ∧ f.al y = true := by
  obtain ⟨i, hi, hxy⟩ := ha
  obtain ⟨j, rfl, hj, hw⟩ := mem_wkL.1 (hL i hi)
  obtain ⟨-, -, h1, h2, -⟩ := FK.ends h hj
  obtain ⟨-, -, -, -, hdd, -⟩ := FK.ok_facts h
  rw [Int.toNat_natCast] at hxy
  unfold FK.wk at hw
  simp only [Bool.and_eq_true, Bool.not_eq_true'] at hw
  have key : f.al (f.la j) = true ∧ f.al (f.lb j) = true := by
    unfold FK.al
    simp only [Int.toNat_natCast, Bool.and_eq_true, decide_eq_true_eq, Bool.not_eq_true']
    exact ⟨⟨by omega, hw.1.2⟩, by omega, hw.2⟩
  rcases hxy with ⟨rfl, rfl⟩ | ⟨rfl, rfl⟩
  · exact key
  · exact key.symm
theorem isD_distZ {f : FK} (h : f.ok = true) {L : List Int} (hL : ∀ i ∈ L, i ∈ wls f) {to : Nat} (hto : f.al to = true) : isD f L to f.sw.toNat (distZ f L to) := by
  obtain ⟨h1, h2, -, -, hdd, -⟩ := FK.ok_facts h
  unfold distZ
  rw [hto, cond_true, Int.toNat_natCast]
  refine isD_rxN (by omega) (fun i hi => ?_) ?_
  · obtain ⟨j, rfl, hj, hw⟩ := mem_wkL.1 (hL i hi)
    obtain ⟨-, -, h1, h2, -⟩ := FK.ends h hj
    rw [Int.toNat_natCast]
    omega
  · simp only [FK.al, Bool.and_eq_true, decide_eq_true_eq] at hto
    omega
end Go.Proofs.Ytpdiainbcekpiaa
