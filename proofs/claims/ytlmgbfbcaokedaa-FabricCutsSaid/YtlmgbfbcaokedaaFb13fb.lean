/-
  Layer 13: the greatest flow is the least cut. About lists only.
-/
import Derived.Test.YtlmgbfbcaokedaaFb13fa
namespace Go.Proofs.Ytlmgbfbcaokedaa
open Go.RowKit
def sumN (g : Nat → Int) : Nat → Int
  | 0 => 0
  | n + 1 => sumN g n + g n
theorem sumN_upd {g h : Nat → Int} {i : Nat} {d : Int} (hi : h i = g i + d) (ho : ∀ k, k ≠ i → h k = g k) : ∀ n, sumN h n = sumN g n + if i < n then d else 0
  | 0 => by rw [if_neg (by omega)]; rfl
  | n + 1 => by
    have ih := sumN_upd hi ho n
    unfold sumN
    rw [ih]
    by_cases h1 : i < n
    · rw [if_pos h1, if_pos (by omega), ho n (by omega)]; omega
    · by_cases h2 : i = n
      · subst h2
        rw [if_neg h1, if_pos (by omega), hi]; omega
      · rw [if_neg h1, if_neg (by omega), ho n (fun e => h2 e.symm)]; omega
theorem sumN_nonneg {g : Nat → Int} : ∀ n, (∀ k, k < n → 0 ≤ g k) → 0 ≤ sumN g n
  | 0, _ => Int.le_refl 0
  | n + 1, h => by
    have := sumN_nonneg n fun k hk => h k (by omega)
    have := h n (by omega)
    unfold sumN; omega
theorem sumN_le {g h : Nat → Int} : ∀ n, (∀ k, k < n → g k ≤ h k) → sumN g n ≤ sumN h n
  | 0, _ => Int.le_refl 0
  | n + 1, hh => by
    have := sumN_le n fun k hk => hh k (by omega)
    have := hh n (by omega)
    unfold sumN; omega
theorem sumN_const (c : Int) : ∀ n : Nat, sumN (fun _ => c) n = n * c
  | 0 => by simp [sumN]
  | n + 1 => by
    unfold sumN
    rw [sumN_const c n, Int.natCast_add, Int.add_mul]; simp
theorem sumN_zero {g : Nat → Int} : ∀ n, (∀ k, k < n → g k = 0) → sumN g n = 0
  | 0, _ => rfl
  | n + 1, h => by
    have := sumN_zero n fun k hk => h k (by omega)
    have := h n (by omega)
    unfold sumN; omega
/-- What leaves a set of switches. -/
def xS (S : Nat → Bool) (L : List Int) : Int := sumN (fun k => bif S (k / 8) && !S (k % 8) then L.getD k 0 else 0) 64
theorem addM_at {L : List Int} (hL : L.length = 64) {u v x y : Nat} (hu : u < 8) (hv : v < 8) (hy : y < 8) (c : Int) : (addM L u v c).getD (x * 8 + y) 0 = L.getD (x * 8 + y) 0 + if u = x ∧ v = y then c else 0 := by
  unfold addM
  rw [getD_setI]
  by_cases h : u * 8 + v = x * 8 + y
  · have h1 : u = x ∧ v = y := by omega
    obtain ⟨rfl, rfl⟩ := h1
    rw [if_pos ⟨rfl, by omega⟩, if_pos ⟨rfl, rfl⟩]
  · rw [if_neg (fun q => h q.1), if_neg (fun q => h (by rw [q.1, q.2]))]; omega
theorem xS_addM (S : Nat → Bool) {L : List Int} (hL : L.length = 64) {x y : Nat} (hx : x < 8) (hy : y < 8) (c : Int) : xS S (addM L x y c) = xS S L + bif S x && !S y then c else 0 := by
  unfold xS
  rw [sumN_upd (g := fun k => bif S (k / 8) && !S (k % 8) then L.getD k 0 else 0) (i := x * 8 + y) (d := bif S x && !S y then c else 0) ?_ ?_ 64, if_pos (by omega)]
  · show (bif S ((x * 8 + y) / 8) && !S ((x * 8 + y) % 8) then (addM L x y c).getD (x * 8 + y) 0 else 0) = (bif S ((x * 8 + y) / 8) && !S ((x * 8 + y) % 8) then L.getD (x * 8 + y) 0 else 0) + _
    rw [addM_at hL hx hy hy, if_pos ⟨rfl, rfl⟩, show (x * 8 + y) / 8 = x by omega, show (x * 8 + y) % 8 = y by omega]
    cases S x && !S y
    · rfl
    · rfl
  · intro k hk
    show (bif S (k / 8) && !S (k % 8) then (addM L x y c).getD k 0 else 0) = bif S (k / 8) && !S (k % 8) then L.getD k 0 else 0
    have : (addM L x y c).getD k 0 = L.getD k 0 := by
      unfold addM
      rw [getD_setI, if_neg (fun q => hk q.1.symm)]
    rw [this]
def ind (S : Nat → Bool) (x : Nat) : Int := bif S x then 1 else 0
theorem xS_edge (S : Nat → Bool) {L : List Int} (hL : L.length = 64) {u v : Nat} (hu : u < 8) (hv : v < 8) (n : Int) : xS S (addM (addM L u v (-n)) v u n) = xS S L - n * (ind S u - ind S v) := by
  rw [xS_addM S (by rw [addM_len]; exact hL) hv hu, xS_addM S hL hu hv]
  unfold ind
  cases S u <;> cases S v <;> simp <;> omega
theorem xS_updP (S : Nat → Bool) {bf : List Int} {a : Nat} (n : Int) : ∀ (p : List Nat) (t : Nat) (L : List Int), L.length = 64 → isP bf a p t → xS S (updP bf n p L) = xS S L - n * (ind S a - ind S t)
  | [], t, L, _, h => by
    have : t = a := h
    subst this
    show xS S L = _
    rw [Int.sub_self, Int.mul_zero]; omega
  | x :: p, t, L, hL, h => by
    obtain ⟨rfl, _, hx, y, hy, hy8, hp⟩ := h
    have hpv : pv bf t = y := by unfold pv; rw [hy]; rfl
    rw [updP, xS_updP S n p y _ (by simp [hL]) hp, hpv, xS_edge S hL hy8 hx]
    have : n * (ind S a - ind S t) = n * (ind S y - ind S t) + n * (ind S a - ind S y) := by rw [← Int.mul_add]; congr 1; omega
    omega
def nnL (L : List Int) : Prop := ∀ k, 0 ≤ L.getD k 0
theorem addM_nn {L : List Int} (h : nnL L) {u v : Nat} {c : Int} (hc : 0 ≤ L.getD (u * 8 + v) 0 + c) : nnL (addM L u v c) := fun k => by
  unfold addM
  rw [getD_setI]
  have := h k
  split <;> omega
theorem updP_nn {bf : List Int} {a : Nat} {n : Int} (hn : 0 ≤ n) : ∀ (p : List Nat) (t : Nat) (L : List Int), L.length = 64 → isP bf a p t → p.Nodup → nnL L → (∀ x ∈ p, x < 8 ∧ n ≤ L.getD (pv bf x * 8 + x) 0) → nnL (updP bf n p L)
  | [], _, L, _, _, _, h, _ => h
  | x :: p, t, L, hL, h, hnd, hnn, hle => by
    obtain ⟨rfl, _, hx, y, hy, hy8, hp⟩ := h
    have hpv : pv bf t = y := by unfold pv; rw [hy]; rfl
    have h0 := (hle t List.mem_cons_self).2
    rw [hpv] at h0
    have h1 : nnL (addM L y t (-n)) := addM_nn hnn (by omega)
    have h1l : (addM L y t (-n)).length = 64 := by rw [addM_len]; exact hL
    have h2 : nnL (addM (addM L y t (-n)) t y n) := addM_nn h1 (by have := h1 (t * 8 + y); omega)
    rw [updP, hpv]
    refine updP_nn hn p y _ (by simp [hL]) hp (List.nodup_cons.1 hnd).2 h2 fun z hz => ?_
    obtain ⟨z8, hzn⟩ := hle z (List.mem_cons_of_mem _ hz)
    refine ⟨z8, ?_⟩
    have hzt : t ≠ z := fun e => (List.nodup_cons.1 hnd).1 (e ▸ hz)
    rw [addM_at h1l hx hy8 z8, addM_at hL hy8 hx z8, if_neg (fun q => hzt q.2)]
    split <;> omega
def prs (L M : List Int) : Prop := ∀ x y, x < 8 → y < 8 → L.getD (x * 8 + y) 0 + L.getD (y * 8 + x) 0 = M.getD (x * 8 + y) 0 + M.getD (y * 8 + x) 0
theorem prs_edge {L M : List Int} (hL : L.length = 64) {u v : Nat} (hu : u < 8) (hv : v < 8) (n : Int) (h : prs L M) : prs (addM (addM L u v (-n)) v u n) M := fun x y hx hy => by
  have h1l : (addM L u v (-n)).length = 64 := by rw [addM_len]; exact hL
  rw [addM_at h1l hv hu hy, addM_at h1l hv hu hx, addM_at hL hu hv hy, addM_at hL hu hv hx, ← h x y hx hy]
  by_cases h1 : u = x ∧ v = y
  · by_cases h2 : v = x ∧ u = y
    · rw [if_pos h1, if_pos h2, if_pos (show u = y ∧ v = x by omega), if_pos (show v = y ∧ u = x by omega)]; omega
    · rw [if_pos h1, if_neg h2, if_neg (show ¬ (u = y ∧ v = x) by omega), if_pos (show v = y ∧ u = x by omega)]; omega
  · by_cases h2 : v = x ∧ u = y
    · rw [if_neg h1, if_pos h2, if_pos (show u = y ∧ v = x by omega), if_neg (show ¬ (v = y ∧ u = x) by omega)]; omega
    · rw [if_neg h1, if_neg h2, if_neg (show ¬ (u = y ∧ v = x) by omega), if_neg (show ¬ (v = y ∧ u = x) by omega)]; omega
theorem prs_updP {bf : List Int} {a : Nat} {n : Int} {M : List Int} : ∀ (p : List Nat) (t : Nat) (L : List Int), L.length = 64 → isP bf a p t → prs L M → prs (updP bf n p L) M
  | [], _, L, _, _, h => h
  | x :: p, t, L, hL, h, hpr => by
    obtain ⟨rfl, _, hx, y, hy, hy8, hp⟩ := h
    have hpv : pv bf t = y := by unfold pv; rw [hy]; rfl
    rw [updP, hpv]
    exact prs_updP p y _ (by simp [hL]) hp (prs_edge hL hy8 hx n hpr)
theorem minL_le {L bf : List Int} : ∀ (p : List Nat) (m : Int), minL L bf p m ≤ m ∧ ∀ x ∈ p, minL L bf p m ≤ L.getD (pv bf x * 8 + x) 0
  | [], m => ⟨Int.le_refl _, fun x hx => by cases hx⟩
  | y :: p, m => by
    obtain ⟨h1, h2⟩ := minL_le (L := L) (bf := bf) p (min m (L.getD (pv bf y * 8 + y) 0))
    unfold minL
    refine ⟨by omega, fun x hx => ?_⟩
    rcases List.mem_cons.1 hx with rfl | hx
    · omega
    · exact h2 x hx
theorem minL_pos {L bf : List Int} : ∀ (p : List Nat) (m : Int), 0 < m → (∀ x ∈ p, 0 < L.getD (pv bf x * 8 + x) 0) → 0 < minL L bf p m
  | [], m, h, _ => h
  | y :: p, m, h, h2 => by
    unfold minL
    have := h2 y List.mem_cons_self
    exact minL_pos p _ (by omega) fun x hx => h2 x (List.mem_cons_of_mem _ hx)
theorem xS_nn {L : List Int} (h : nnL L) (S : Nat → Bool) : 0 ≤ xS S L := sumN_nonneg 64 fun k _ => by
  show 0 ≤ bif S (k / 8) && !S (k % 8) then L.getD k 0 else 0
  have := h k
  cases S (k / 8) && !S (k % 8)
  · exact Int.le_refl 0
  · exact this
/-- What holds before each round. -/
def Inv (C : List Int) (a b : Nat) (L : List Int) (t : Int) : Prop := L.length = 64 ∧ nnL L ∧ prs L C ∧ (∀ S : Nat → Bool, S a = true → S b = false → xS S L + t = xS S C) ∧ 0 ≤ t
theorem inv_sml {C L : List Int} {a b : Nat} {t : Int} (hs : sml C 100000000) (h : Inv C a b L t) : sml L 1000000000000 := fun i => by
  obtain ⟨hL, hnn, hpr, -, -⟩ := h
  have h0 := hnn i
  refine ⟨by omega, ?_⟩
  by_cases hi : i < 64
  · have h1 := hpr (i / 8) (i % 8) (by omega) (by omega)
    rw [show i / 8 * 8 + i % 8 = i by omega] at h1
    have h2 := hnn (i % 8 * 8 + i / 8)
    have h3 := (hs i).2
    have h4 := (hs (i % 8 * 8 + i / 8)).2
    omega
  · have : L.getD i 0 = 0 := by rw [List.getD_eq_getElem?_getD, List.getElem?_eq_none (by omega)]; rfl
    omega
theorem xS_most {C : List Int} (hs : sml C 100000000) (S : Nat → Bool) : xS S C ≤ 6400000000 := by
  have h1 := sumN_le (g := fun k => bif S (k / 8) && !S (k % 8) then C.getD k 0 else 0) (h := fun _ => 100000000) 64 fun k _ => by
    have := (hs k).2
    show (bif S (k / 8) && !S (k % 8) then C.getD k 0 else 0) ≤ 100000000
    cases S (k / 8) && !S (k % 8)
    · exact (by decide : (0 : Int) ≤ 100000000)
    · exact this
  rw [sumN_const] at h1
  exact h1
theorem isP_cons {bf : List Int} {a b : Nat} {p : List Nat} (h : isP bf a p b) (hab : a ≠ b) : b ∈ p ∧ ∃ y : Nat, bf.getD b 0 = y ∧ y < 8 := by
  cases p with
  | nil => exact absurd (Eq.symm h) hab
  | cons x p =>
    obtain ⟨rfl, _, _, y, hy, hy8, _⟩ := h
    exact ⟨List.mem_cons_self, y, hy, hy8⟩
theorem flow_round {C : List Int} (hs : sml C 100000000) {a b : Nat} (ha : a < 8) (hb : b < 8) (hab : a ≠ b) {L : List Int} {t : Int} (h : Inv C a b L t) :
    ((srZ L a).getD b 0 < 0 ∧ (∀ S : Nat → Bool, S a = true → S b = false → t ≤ xS S C) ∧ ∃ S : Nat → Bool, S a = true ∧ S b = false ∧ t = xS S C) ∨ ∃ (L' : List Int) (t' : Int), Inv C a b L' t' ∧ t + 1 ≤ t' ∧ ∀ n r, FlowR a b n L' t' r → FlowR a b (n + 1) L t r := by
  have hsm := inv_sml hs h
  obtain ⟨hL, hnn, hpr, hJ, ht⟩ := h
  have htm : t ≤ 6400000000 := by
    have h1 := hJ (fun x => x == a) (by simp) (by simp; omega)
    have h2 := xS_nn hnn (fun x => x == a)
    have h3 := xS_most hs (fun x => x == a)
    omega
  obtain ⟨rk, c, h1, h2, h3⟩ := srZ_tr (L := L) ha
  by_cases h0 : 0 ≤ (srZ L a).getD b 0
  · obtain ⟨s, -, -, -, -, -, hrb⟩ := h1.2.2.2 b hb h0 (fun e => hab e.symm)
    obtain ⟨p, p1, p2, p3, p4⟩ := way_ex h1 8 b (by omega) hb h0
    obtain ⟨hbp, y, hy, hy8⟩ := isP_cons p1 hab
    have hpv : pv (srZ L a) b = y := by unfold pv; rw [hy]; rfl
    have hbL := (p3 b hbp).2.2
    rw [hpv] at hbL
    have hpos := minL_pos (bf := srZ L a) p (L.getD (y * 8 + b) 0) hbL fun x hx => (p3 x hx).2.2
    have hle := minL_le (L := L) (bf := srZ L a) p (L.getD (y * 8 + b) 0)
    refine .inr ⟨updP (srZ L a) (minL L (srZ L a) p (L.getD (y * 8 + b) 0)) p L, t + minL L (srZ L a) p (L.getD (y * 8 + b) 0), ⟨by simp [hL], updP_nn (by omega) p b L hL p1 p4 hnn fun x hx => ⟨(p3 x hx).1, hle.2 x hx⟩, prs_updP p b L hL p1 hpr, fun S hS1 hS2 => ?_, by omega⟩, by omega, fun n r hr => .step p y hy hy8 p1 p2 hsm (by omega) hr⟩
    rw [xS_updP S _ p b L hL p1, ← hJ S hS1 hS2]
    unfold ind
    rw [hS1, hS2, cond_true, cond_false, Int.sub_zero, Int.mul_one]
    omega
  · refine .inl ⟨by omega, fun S hS1 hS2 => ?_, fun x => decide (0 ≤ (srZ L a).getD x 0), ?_, ?_, ?_⟩
    · have h4 := hJ S hS1 hS2
      have h5 := xS_nn hnn S
      omega
    · have := h1.2.1
      exact decide_eq_true (by omega)
    · exact decide_eq_false h0
    · have h4 := hJ (fun x => decide (0 ≤ (srZ L a).getD x 0)) (decide_eq_true (by have := h1.2.1; omega)) (decide_eq_false h0)
      have h5 : xS (fun x => decide (0 ≤ (srZ L a).getD x 0)) L = 0 := sumN_zero 64 fun k hk => by
        show (bif decide (0 ≤ (srZ L a).getD (k / 8) 0) && !decide (0 ≤ (srZ L a).getD (k % 8) 0) then L.getD k 0 else 0) = 0
        by_cases q1 : 0 ≤ (srZ L a).getD (k / 8) 0
        · by_cases q2 : 0 ≤ (srZ L a).getD (k % 8) 0
          · rw [decide_eq_true q2, Bool.not_true, Bool.and_false]; rfl
          · rw [decide_eq_true q1, decide_eq_false q2]
            show L.getD k 0 = 0
            have q3 := h3 (k / 8) (by omega) q1 (k % 8) (by omega)
            rw [show k / 8 * 8 + k % 8 = k by omega] at q3
            have q4 := hnn k
            have : ¬ 0 < L.getD k 0 := fun q => q2 (q3 q)
            omega
        · rw [decide_eq_false q1]; rfl
      omega
/-- The rounds end, with the least cut. -/
theorem flow_ex {C : List Int} (hs : sml C 100000000) {a b : Nat} (ha : a < 8) (hb : b < 8) (hab : a ≠ b) : ∀ (k : Nat) (L : List Int) (t : Int), Inv C a b L t → xS (fun x => x == a) C - t ≤ k →
    ∃ (n : Nat) (r : Int), FlowR a b n L t r ∧ (∀ S : Nat → Bool, S a = true → S b = false → r ≤ xS S C) ∧ ∃ S : Nat → Bool, S a = true ∧ S b = false ∧ r = xS S C := by
  intro k
  induction k with
  | zero =>
    intro L t h hk
    rcases flow_round hs ha hb hab h with ⟨h1, h2, h3⟩ | ⟨L', t', h1, h2, h3⟩
    · exact ⟨0, t, .stop h1, h2, h3⟩
    · exfalso
      have h4 := h1.2.2.2.1 (fun x => x == a) (by simp) (by simp; omega)
      have h5 := xS_nn h1.2.1 (fun x => x == a)
      omega
  | succ k ih =>
    intro L t h hk
    rcases flow_round hs ha hb hab h with ⟨h1, h2, h3⟩ | ⟨L', t', h1, h2, h3⟩
    · exact ⟨0, t, .stop h1, h2, h3⟩
    · obtain ⟨n, r, q1, q2, q3⟩ := ih L' t' h1 (by omega)
      exact ⟨n + 1, r, h3 n r q1, q2, q3⟩
/-- What the working links carry out of a set of switches. -/
def cutV (f : FK) (S : Nat → Bool) : Int := sumN (fun i => bif f.wk i && (S (f.la i) != S (f.lb i)) then (f.ls.getD i (0, 0, 0)).2.2 else 0) f.ls.length
theorem xS_zero (S : Nat → Bool) : xS S (List.replicate 64 0) = 0 := sumN_zero 64 fun k _ => by
  show (bif S (k / 8) && !S (k % 8) then (List.replicate 64 (0 : Int)).getD k 0 else 0) = 0
  have : (List.replicate 64 (0 : Int)).getD k 0 = 0 := by
    rw [List.getD_eq_getElem?_getD, List.getElem?_replicate]; split <;> rfl
  rw [this]
  cases S (k / 8) && !S (k % 8) <;> rfl
theorem xS_cap1 {f : FK} (h : f.ok = true) (S : Nat → Bool) {L : List Int} (hL : L.length = 64) {i : Nat} (hi : i < f.ls.length) : xS S (cap1 f L i) = xS S L + bif S (f.la i) != S (f.lb i) then (f.ls.getD i (0, 0, 0)).2.2 else 0 := by
  obtain ⟨-, h8, -, -, hdd, -⟩ := FK.ok_facts h
  obtain ⟨-, -, ha, hb, -⟩ := FK.ends h hi
  unfold cap1
  rw [xS_addM S (by rw [addM_len]; exact hL) (by omega) (by omega), xS_addM S hL (by omega) (by omega)]
  cases S (f.la i) <;> cases S (f.lb i) <;> simp
theorem xS_cap0 {f : FK} (h : f.ok = true) (S : Nat → Bool) : xS S (cap0 f) = cutV f S := by
  have key : ∀ i, i ≤ f.ls.length → xS S (capN f (wls f) (wkL f i).length) = sumN (fun i => bif f.wk i && (S (f.la i) != S (f.lb i)) then (f.ls.getD i (0, 0, 0)).2.2 else 0) i := by
    intro i
    induction i with
    | zero => intro _; exact xS_zero S
    | succ i ih =>
      intro hi
      have ih := ih (by omega)
      rw [wkL_succ]
      show _ = sumN _ i + bif f.wk i && (S (f.la i) != S (f.lb i)) then (f.ls.getD i (0, 0, 0)).2.2 else 0
      cases hw : f.wk i with
      | false => rw [cond_false, ih]; simp
      | true =>
        rw [cond_true, Bool.true_and, List.length_append, List.length_singleton]
        obtain ⟨R, e1, -⟩ := wkL_take (f := f) (n := i + 1) f.ls.length (by omega)
        have hat : (wls f).getD (wkL f i).length 0 = (i : Int) := by
          show (wkL f f.ls.length).getD (wkL f i).length 0 = _
          rw [e1, wkL_succ, hw, cond_true, List.append_assoc, List.getD_eq_getElem?_getD, List.getElem?_append_right (by omega), Nat.sub_self]
          rfl
        show xS S (cap1 f (capN f (wls f) (wkL f i).length) ((wls f).getD (wkL f i).length 0).toNat) = _
        rw [hat, Int.toNat_natCast, xS_cap1 h S (capN_len f _ _) (by omega), ih]
  exact key _ (Nat.le_refl _)
theorem cap1_nn {f : FK} {L : List Int} (h : nnL L) {i : Nat} (hc : 0 ≤ (f.ls.getD i (0, 0, 0)).2.2) : nnL (cap1 f L i) := by
  unfold cap1
  have h1 : nnL (addM L (f.la i) (f.lb i) (f.ls.getD i (0, 0, 0)).2.2) := addM_nn h (by have := h (f.la i * 8 + f.lb i); omega)
  exact addM_nn h1 (by have := h1 (f.lb i * 8 + f.la i); omega)
theorem link_cap {f : FK} (h : f.ok = true) {i : Nat} (hi : i < f.ls.length) : 1 ≤ (f.ls.getD i (0, 0, 0)).2.2 ∧ (f.ls.getD i (0, 0, 0)).2.2 ≤ 1048576 := by
  obtain ⟨-, -, -, -, -, hco⟩ := FK.ok_facts h
  obtain ⟨a', b', c', e3, _, _, _, e4, e5⟩ := hco i hi
  rw [e3]
  exact ⟨e4, e5⟩
theorem cap0_facts {f : FK} (h : f.ok = true) : (cap0 f).length = 64 ∧ nnL (cap0 f) ∧ sml (cap0 f) 100000000 := by
  obtain ⟨-, -, hl24, -, -, -⟩ := FK.ok_facts h
  have hW : ∀ k, k < (wkL f f.ls.length).length → ∃ i : Nat, (wkL f f.ls.length).getD k 0 = i ∧ i < f.ls.length := fun k hk => by
    obtain ⟨i, e1, e2, -⟩ := wkL_at k hk
    exact ⟨i, e1, e2⟩
  have hl := wkL_len f f.ls.length
  refine ⟨capN_len f _ _, ?_, sml_mono (sml_capN hW (fun i hi => link_cap h hi) _ (Nat.le_refl _)) (by omega)⟩
  have key : ∀ m, m ≤ (wkL f f.ls.length).length → nnL (capN f (wkL f f.ls.length) m) := by
    intro m
    induction m with
    | zero =>
      intro _ k
      show 0 ≤ (List.replicate 64 (0 : Int)).getD k 0
      rw [List.getD_eq_getElem?_getD, List.getElem?_replicate]; split <;> decide
    | succ m ih =>
      intro hm
      obtain ⟨i, e1, e2⟩ := hW m (by omega)
      show nnL (cap1 f (capN f (wkL f f.ls.length) m) ((wkL f f.ls.length).getD m 0).toNat)
      rw [e1, Int.toNat_natCast]
      exact cap1_nn (ih (by omega)) (by have := link_cap h e2; omega)
  exact key _ (Nat.le_refl _)
/-- The program's answer is the least cut. -/
theorem Flow_cut {f : FK} (h : f.ok = true) (a b : Nat) (hab : a ≠ b) (ha : f.al a = true) (hb : f.al b = true) : ∃ r : Int, Spec Try.prog 27 [.agg f.A, .val (.int .i64 (a : Int)), .val (.int .i64 (b : Int))] [] (.val (.int .i64 r)) [] ∧ (∀ S : Nat → Bool, S a = true → S b = false → r ≤ cutV f S) ∧ ∃ S : Nat → Bool, S a = true ∧ S b = false ∧ r = cutV f S := by
  obtain ⟨-, h8, -, -, -, -⟩ := FK.ok_facts h
  obtain ⟨h1, h2, h3⟩ := cap0_facts h
  have ha8 := ((al_iff h).1 ha).1
  have hb8 := ((al_iff h).1 hb).1
  obtain ⟨n, r, q1, q2, q3⟩ := flow_ex h3 (a := a) (b := b) (by omega) (by omega) hab (xS (fun x => x == a) (cap0 f)).toNat (cap0 f) 0 ⟨h1, h2, fun x y _ _ => rfl, fun S _ _ => by omega, by omega⟩ (by omega)
  refine ⟨r, Flow_spec h a b hab ha hb n r q1, fun S s1 s2 => ?_, ?_⟩
  · rw [← xS_cap0 h]; exact q2 S s1 s2
  · obtain ⟨S, s1, s2, s3⟩ := q3
    exact ⟨S, s1, s2, by rw [← xS_cap0 h]; exact s3⟩
end Go.Proofs.Ytlmgbfbcaokedaa
