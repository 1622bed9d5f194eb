/-
  Layer 40: what is used does not depend on the order, grows with a value, and few exceed it: about lists alone.
-/
import Derived.Test.YtlehkllcbedkhaaSer40n
namespace Go.Proofs.Ytlehkllcbedkhaa
open Go.RowKit
theorem sortZ_of_perm {xs ys : List Int} (h : xs.Perm ys) : sortZ xs = sortZ ys :=
  (((sortZ_perm xs).trans h).trans (sortZ_perm ys).symm).eq_of_pairwise (fun a b _ _ h3 h4 => Int.le_antisymm h3 h4) (sortZ_sorted xs) (sortZ_sorted ys)
theorem pctZ_of_perm {xs ys : List Int} (h : xs.Perm ys) (p : Int) : pctZ xs p = pctZ ys p := by
  unfold pctZ
  rw [sortZ_of_perm h, h.length_eq]
theorem recs_of_perm {xs ys : List Int} (h : xs.Perm ys) (s : Int) : (recs xs s).Perm (recs ys s) := (h.filter _).map _
theorem rot_perm (xs : List Int) (k : Nat) : (xs.drop k ++ xs.take k).Perm xs := by
  have := List.perm_append_comm (l₁ := xs.drop k) (l₂ := xs.take k)
  rwa [List.take_append_drop] at this
def SK.rot (m : SK) (k : Nat) : SK := ⟨m.port, m.sec, m.i.drop k ++ m.i.take k, m.o.drop k ++ m.o.take k⟩
theorem rot_ok {m : SK} (k : Nat) (h : m.ok = true) : (m.rot k).ok = true := by
  obtain ⟨hl, -⟩ := SK.ok_facts h
  simp only [SK.ok, headOk, Bool.and_eq_true, allFrom, List.drop_zero] at h ⊢
  refine ⟨⟨⟨h.1.1.1, ?_⟩, ?_⟩, ?_⟩
  · have := h.1.1.2
    simp only [decide_eq_true_eq] at this
    simp only [SK.rot, List.length_append, List.length_drop, List.length_take, decide_eq_true_eq]
    omega
  · have := h.1.2
    simp only [decide_eq_true_eq] at this
    simp only [SK.rot, List.length_append, List.length_drop, List.length_take, decide_eq_true_eq]
    omega
  · have hp : ((m.rot k).i.zip (m.rot k).o) = (m.i.zip m.o).drop k ++ (m.i.zip m.o).take k := by
      unfold SK.rot
      dsimp only
      rw [List.zip_append (by simp [hl])]
      simp only [List.zip, List.drop_zipWith, List.take_zipWith]
    rw [hp, List.all_append, Bool.and_comm, ← List.all_append, List.take_append_drop]
    exact h.2
theorem rot_used {m : SK} (k : Nat) (h : m.ok = true) (p : Int) : usedZ (m.rot k) p = usedZ m p := by
  unfold usedZ
  rw [h, rot_ok k h]
  have e1 : pctZ (recs (m.rot k).i (m.rot k).sec) p = pctZ (recs m.i m.sec) p := pctZ_of_perm (recs_of_perm (rot_perm m.i k) m.sec) p
  have e2 : pctZ (recs (m.rot k).o (m.rot k).sec) p = pctZ (recs m.o m.sec) p := pctZ_of_perm (recs_of_perm (rot_perm m.o k) m.sec) p
  rw [e1, e2]
def leZ : List Int → List Int → Prop
  | [], [] => True
  | a :: us, b :: bs => a ≤ b ∧ leZ us bs
  | _, _ => False
theorem leZ_length : ∀ {xs ys : List Int}, leZ xs ys → xs.length = ys.length
  | [], [], _ => rfl
  | [], _ :: _, h => h.elim
  | _ :: _, [], h => h.elim
  | _ :: _, _ :: _, h => by simp [leZ_length h.2]
theorem leZ_refl : ∀ xs : List Int, leZ xs xs
  | [] => trivial
  | x :: xs => ⟨Int.le_refl x, leZ_refl xs⟩
theorem leZ_count {x y : Int} (h : y < x) : ∀ {xs ys : List Int}, leZ xs ys → upN y ys ≤ beN x xs
  | [], [], _ => Nat.le_refl _
  | [], _ :: _, h => h.elim
  | _ :: _, [], h => h.elim
  | a :: us, b :: bs, g => by
    have ih := leZ_count h g.2
    have g1 := g.1
    unfold upN beN at *
    rw [List.countP_cons, List.countP_cons]
    by_cases hb : b ≤ y
    · have : a < x := by omega
      simp only [hb, this, decide_true, if_true]; omega
    · by_cases ha : a < x <;> simp only [hb, ha, decide_true, decide_false, if_true, Bool.false_eq_true, if_false] <;> omega
theorem leZ_sort {xs ys : List Int} (h : leZ xs ys) {r : Nat} (hr : r < xs.length) : (sortZ xs).getD r 0 ≤ (sortZ ys).getD r 0 := by
  have hl := leZ_length h
  apply Classical.byContradiction
  intro hc
  have h1 := rank_up ys r (by omega)
  have h2 := rank_be xs r hr
  have h3 := leZ_count (show (sortZ ys).getD r 0 < (sortZ xs).getD r 0 by omega) h
  omega
theorem leZ_pct {xs ys : List Int} (h : leZ xs ys) (p : Int) (hp : 1 ≤ p) (hp2 : p ≤ 100) : (pctZ xs p).1 ≤ (pctZ ys p).1 := by
  unfold pctZ
  rw [leZ_length h]
  split
  · exact Int.le_refl _
  · split
    · exact Int.le_refl _
    · exact leZ_sort h (by rw [leZ_length h]; exact (rank_lt p _ hp hp2 (by omega)).2)
/-- One value grown, or us before. -/
def growZ : List Int → List Int → Prop
  | [], [] => True
  | a :: us, b :: bs => (a = b ∨ (0 ≤ a ∧ a ≤ b ∧ b ≤ 1125899906842624)) ∧ growZ us bs
  | _, _ => False
theorem growZ_refl : ∀ xs : List Int, growZ xs xs
  | [] => trivial
  | x :: xs => ⟨.inl rfl, growZ_refl xs⟩
theorem growZ_set {v : Int} : ∀ (xs : List Int) (j : Nat), 0 ≤ xs.getD j (-1) → xs.getD j (-1) ≤ v → v ≤ 1125899906842624 → growZ xs (xs.set j v)
  | [], j, h, _, _ => by simp at h
  | x :: xs, 0, h, g, e => ⟨.inr ⟨by simpa using h, by simpa using g, e⟩, growZ_refl xs⟩
  | x :: xs, j + 1, h, g, e => ⟨.inl rfl, growZ_set xs j (by simpa using h) (by simpa using g) e⟩
theorem rateZ_mono {a b s : Int} (hs : inB s 1 86400 = true) (h0 : 0 ≤ a) (h : a ≤ b) (h1 : b ≤ 1125899906842624) : (rateZ a s).1 ≤ (rateZ b s).1 := by
  simp only [inB, Bool.and_eq_true, decide_eq_true_eq] at hs
  unfold rateZ
  rw [if_pos (by simp only [inB, Bool.and_eq_true, decide_eq_true_eq]; omega), if_pos (by simp only [inB, Bool.and_eq_true, decide_eq_true_eq]; omega)]
  exact Int.ediv_le_ediv (by omega) (by omega)
theorem recs_grow {s : Int} (hs : inB s 1 86400 = true) : ∀ {xs ys : List Int}, growZ xs ys → leZ (recs xs s) (recs ys s)
  | [], [], _ => trivial
  | [], _ :: _, h => h.elim
  | _ :: _, [], h => h.elim
  | a :: us, b :: bs, g => by
    have ih := recs_grow hs g.2
    unfold recs at ih ⊢
    rcases g.1 with rfl | ⟨h0, h1, h2⟩
    · rw [List.filter_cons, List.filter_cons]
      split
      · exact ⟨Int.le_refl _, ih⟩
      · exact ih
    · rw [List.filter_cons, List.filter_cons, if_pos (by simp; omega), if_pos (by simp; omega)]
      exact ⟨rateZ_mono hs h0 h1 h2, ih⟩
theorem grow_all : ∀ {xs ys zs : List Int}, growZ xs ys → (xs.zip zs).all (fun x => pairOk x.1 x.2) = true → (ys.zip zs).all (fun x => pairOk x.1 x.2) = true
  | [], [], _, _, h => h
  | [], _ :: _, _, h, _ => h.elim
  | _ :: _, [], _, h, _ => h.elim
  | _ :: _, _ :: _, [], _, _ => rfl
  | a :: us, b :: bs, z :: zs, g, h => by
    simp only [List.zip_cons_cons, List.all_cons, Bool.and_eq_true] at h ⊢
    refine ⟨?_, grow_all g.2 h.2⟩
    rcases g.1 with rfl | ⟨h0, h1, h2⟩
    · exact h.1
    · have := h.1
      simp only [pairOk, inB, Bool.and_eq_true, decide_eq_true_eq, beq_iff_eq] at this ⊢
      refine ⟨⟨⟨by omega, h2⟩, this.1.2⟩, ?_⟩
      have e1 : (a == -1) = false := by simp; omega
      have e2 : (b == -1) = false := by simp; omega
      rw [e2, ← e1]
      exact this.2
theorem growZ_length : ∀ {xs ys : List Int}, growZ xs ys → xs.length = ys.length
  | [], [], _ => rfl
  | [], _ :: _, h => h.elim
  | _ :: _, [], h => h.elim
  | _ :: _, _ :: _, h => by simp [growZ_length h.2]
theorem grow_ok {m : SK} {ys : List Int} (h : m.ok = true) (g : growZ m.i ys) : (SK.mk m.port m.sec ys m.o).ok = true := by
  simp only [SK.ok, headOk, Bool.and_eq_true, allFrom, List.drop_zero] at h ⊢
  rw [← growZ_length g]
  exact ⟨h.1, grow_all g h.2⟩
theorem grow_used {m : SK} {ys : List Int} (h : m.ok = true) (g : growZ m.i ys) {p : Int} (hp : 1 ≤ p) (hp2 : p ≤ 100) : (usedZ (SK.mk m.port m.sec ys m.o) p).2 = (usedZ m p).2 ∧ (usedZ m p).1 ≤ (usedZ (SK.mk m.port m.sec ys m.o) p).1 := by
  obtain ⟨hs, -⟩ := ok_used h p
  have hq := recs_grow hs g
  have e1 := pctZ_err (leZ_length hq) p
  have e2 := leZ_pct hq p hp hp2
  unfold usedZ
  rw [h, grow_ok h g]
  dsimp only
  rw [e1]
  split
  · exact ⟨rfl, Int.le_refl _⟩
  · split
    · exact ⟨rfl, Int.le_refl _⟩
    · refine ⟨rfl, ?_⟩
      dsimp only
      omega
/-- How many exceed. -/
def overZ (u : Int) (l : List Int) : Nat := l.countP fun v => decide (u < v)
theorem over_up (u : Int) (l : List Int) : overZ u l + upN u l = l.length := by
  unfold overZ upN
  rw [List.length_eq_countP_add_countP (fun v => decide (u < v)) (l := l)]
  congr 1
  apply List.countP_congr
  intro x _
  simp
theorem upN_mono {x u : Int} (h : x ≤ u) (l : List Int) : upN x l ≤ upN u l := by
  unfold upN
  apply List.countP_mono_left
  intro v _ hv
  simp only [decide_eq_true_eq] at hv ⊢
  omega
theorem few_over {zs : List Int} {u : Int} (h0 : 0 < zs.length) (h1 : zs.length ≤ 9000) (h : (pctZ zs 95).1 ≤ u) : overZ u zs * 100 ≤ 5 * zs.length := by
  have hr := rank_lt 95 zs.length (by omega) (by omega) h0
  have e : (pctZ zs 95).1 = (sortZ zs).getD (rankOf 95 zs.length) 0 := by
    unfold pctZ
    rw [if_neg (by simp only [Bool.or_eq_true, decide_eq_true_eq]; omega), if_neg (by omega)]
  rw [e] at h
  have h2 := rank_up zs _ hr.2
  have h3 := upN_mono h zs
  have h4 := over_up u zs
  omega
theorem recs_snoc {xs : List Int} {j : Nat} (h : j < xs.length) (s : Int) : recs (xs.take (j + 1)) s = recs (xs.take j) s ++ if xs.getD j 0 = -1 then [] else [(rateZ (xs.getD j 0) s).1] := by
  rw [List.take_succ_eq_append_getElem h]
  have e : xs.getD j 0 = xs[j] := by simp [List.getD_eq_getElem?_getD, h]
  rw [e]
  unfold recs
  rw [List.filter_append, List.map_append]
  congr 1
  by_cases hx : xs[j] = -1
  · rw [if_pos hx, List.filter_cons, if_neg (by simpa using hx)]; rfl
  · rw [if_neg hx, List.filter_cons, if_pos (by simpa using hx)]; rfl
theorem over_snoc (u v : Int) (l : List Int) : overZ u (l ++ [v]) = overZ u l + if u < v then 1 else 0 := by
  simp [overZ, List.countP_append, List.countP_cons]
theorem over_le (u : Int) (l : List Int) : overZ u l ≤ l.length := List.countP_le_length
/-- What is used of a valid series: whether something was recorded. -/
theorem used_95 {m : SK} (h : m.ok = true) : (usedZ m 95 = (0, 39)) ∨ ((usedZ m 95).2 = 0 ∧ 0 < m.i.length ∧ overZ (usedZ m 95).1 (recs m.i m.sec) * 100 ≤ 5 * (recs m.i m.sec).length ∧ overZ (usedZ m 95).1 (recs m.o m.sec) * 100 ≤ 5 * (recs m.i m.sec).length) := by
  obtain ⟨hl, hm⟩ := SK.ok_facts h
  obtain ⟨hs, -, -, e3, e4⟩ := ok_used h 95
  have hf : allFrom m.i m.o 0 = true := by
    simp only [SK.ok, Bool.and_eq_true] at h
    exact h.2
  have hq := recs_same m.sec m.i m.o hl hf
  have hle : (recs m.i m.sec).length ≤ m.i.length := by
    unfold recs
    rw [List.length_map]
    exact List.length_filter_le _ _
  by_cases hz : (recs m.i m.sec).length = 0
  · left
    have e : pctZ (recs m.i m.sec) 95 = (0, 39) := by
      unfold pctZ
      rw [if_neg (by simp only [Bool.or_eq_true, decide_eq_true_eq]; omega), if_pos hz]
    unfold usedZ
    rw [if_neg (by rw [h]; simp), if_pos (by rw [e]; decide), e]
  · right
    have e : (pctZ (recs m.i m.sec) 95).2 = 0 := by
      unfold pctZ
      rw [if_neg (by simp only [Bool.or_eq_true, decide_eq_true_eq]; omega), if_neg hz]
    have eu : usedZ m 95 = (max (pctZ (recs m.i m.sec) 95).1 (pctZ (recs m.o m.sec) 95).1, 0) := by
      unfold usedZ
      rw [if_neg (by rw [h]; simp), if_neg (by rw [e]; decide)]
    rw [eu]
    refine ⟨rfl, by omega, few_over (by omega) (by omega) (by dsimp only; omega), ?_⟩
    rw [hq]
    exact few_over (by omega) (by omega) (by dsimp only; omega)
end Go.Proofs.Ytlehkllcbedkhaa
