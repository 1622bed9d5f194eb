/-
  Layer 13: cuts, parts and flows. About lists only.
-/
import Derived.Test.YtlmgbfbcaokedaaFb13fc
namespace Go.Proofs.Ytlmgbfbcaokedaa
open Go.RowKit
/-- Joined by some way. -/
def rch (f : FK) (s v : Nat) : Prop := f.al s = true ∧ ∃ j, wlk f (wls f) j s v
theorem rch_iff {f : FK} (h : f.ok = true) {s v : Nat} (hv : v < 8) : 0 ≤ (dsts f s).getD v 0 ↔ rch f s v := dist_nonneg h (fun i hi => hi) hv
theorem rch_symm {f : FK} (h : f.ok = true) {s v : Nat} (hr : rch f s v) : rch f v s := by
  obtain ⟨h1, j, hj⟩ := hr
  exact ⟨wlk_al h (fun i hi => hi) h1 hj, j, wlk_symm hj⟩
theorem rch_trans {f : FK} {s v u : Nat} (h1 : rch f s v) (h2 : rch f v u) : rch f s u := by
  obtain ⟨a1, j, hj⟩ := h1
  obtain ⟨-, k, hk⟩ := h2
  exact ⟨a1, j + k, wlk_trans hj hk⟩
theorem rch_self {f : FK} {s : Nat} (h : f.al s = true) : rch f s s := ⟨h, 0, rfl⟩
abbrev prt (f : FK) : List Int := ptN (dsts f) f.sw.toNat f.sw.toNat
theorem prt_at {f : FK} {s : Nat} (hs : s < f.sw.toNat) : (prt f).getD s 0 = fstN (fun t => (dsts f (t : Int)).getD s 0) f.sw.toNat := ptN_at _ _ _ hs _ (Nat.le_refl _)
theorem prt_same {f : FK} (h : f.ok = true) {s v : Nat} (hs : s < f.sw.toNat) (hv : v < f.sw.toNat) : ((prt f).getD s 0 = (prt f).getD v 0 ∧ 0 ≤ (prt f).getD s 0) ↔ rch f s v := by
  obtain ⟨h1, h8, -, -, -, -⟩ := FK.ok_facts h
  constructor
  · rintro ⟨e, h0⟩
    rcases part_val h hs with ⟨q1, _⟩ | ⟨t, q1, q2, q3, _⟩
    · rw [q1] at h0; omega
    · rcases part_val h hv with ⟨r1, _⟩ | ⟨u, r1, r2, r3, _⟩
      · rw [e, r1] at h0; omega
      · rw [q1, r1] at e
        have : t = u := by omega
        subst this
        exact rch_trans (rch_symm h ((rch_iff h (by omega)).1 q3)) ((rch_iff h (by omega)).1 r3)
  · intro hr
    have e : (prt f).getD s 0 = (prt f).getD v 0 := by
      rw [prt_at hs, prt_at hv]
      refine fstN_congr _ fun t ht => ?_
      rw [rch_iff h (by omega), rch_iff h (by omega)]
      exact ⟨fun q => rch_trans q hr, fun q => rch_trans q (rch_symm h hr)⟩
    refine ⟨e, ?_⟩
    rcases part_val h hs with ⟨q1, q2⟩ | ⟨t, q1, q2, q3, _⟩
    · have := q2 s hs
      have := (rch_iff h (show s < 8 by omega)).2 (rch_self hr.1)
      omega
    · rw [q1]; omega
theorem prt_le {f : FK} (h : f.ok = true) {s : Nat} (hs : s < f.sw.toNat) : (prt f).getD s 0 ≤ (s : Int) ∧ ((prt f).getD s 0 < 0 ↔ f.dd.getD s false = true) := by
  obtain ⟨h1, h8, -, -, -, -⟩ := FK.ok_facts h
  rcases part_val h hs with ⟨q1, q2⟩ | ⟨t, q1, q2, q3, q4⟩
  · refine ⟨by rw [q1]; omega, ⟨fun _ => ?_, fun _ => by rw [q1]; omega⟩⟩
    cases hd : f.dd.getD s false with
    | true => rfl
    | false =>
      have := (rch_iff h (show s < 8 by omega)).2 (rch_self ((al_iff h).2 ⟨hs, hd⟩))
      have := q2 s hs
      omega
  · have ha := wlk_al h (fun i hi => hi) ((rch_iff h (show s < 8 by omega)).1 q3).1 ((rch_iff h (show s < 8 by omega)).1 q3).2.choose_spec
    have hself := (rch_iff h (show s < 8 by omega)).2 (rch_self ha)
    refine ⟨?_, ⟨fun hn => by rw [q1] at hn; omega, fun hd => ?_⟩⟩
    · rw [q1]
      have : ¬ s < t := fun q => by have := q4 s q; omega
      omega
    · have := ((al_iff h).1 ha).2
      rw [hd] at this; cases this
theorem prt_eq {f g : FK} (hf : f.ok = true) (hg : g.ok = true) (hsw : g.sw = f.sw) (hr : ∀ s v, rch g s v ↔ rch f s v) : prt g = prt f := by
  obtain ⟨h1, h8, -, -, -, -⟩ := FK.ok_facts hf
  refine getD_ext (by rw [ptN_len, ptN_len, hsw]) fun s hs => ?_
  rw [ptN_len, hsw] at hs
  rw [prt_at (f := f) hs, prt_at (f := g) (by rw [hsw]; exact hs), hsw]
  refine fstN_congr _ fun t ht => ?_
  rw [rch_iff hg (by omega), rch_iff hf (by omega)]
  exact hr t s
/-- A working link is a cut exactly if without it the parts are others. -/
theorem fail_parts {f : FK} (h : f.ok = true) {i : Nat} (hi : i < f.ls.length) (hw : f.wk i = true) : prt (f.fail i) = prt f ↔ rcB f i = false := by
  obtain ⟨h1, h8, -, hdn, hdd, -⟩ := FK.ok_facts h
  obtain ⟨-, -, ha, hb, -⟩ := FK.ends h hi
  have hg := fail_ok h i
  have hsub := sub_fail (f := f) (i := i) (by omega)
  obtain ⟨hadj, hal, hbl⟩ := wk_adj h hi hw
  have hrc : rcB f i = false ↔ rch (f.fail i) (f.la i) (f.lb i) := by
    unfold rcB
    rw [getD_take _ _ _ (by omega), ← rch_iff hg (by omega)]
    constructor
    · intro q; have := of_decide_eq_false q; omega
    · intro q; exact decide_eq_false (by omega)
  rw [hrc]
  constructor
  · intro e
    have h2 := (prt_same h (s := f.la i) (v := f.lb i) (by omega) (by omega)).2 ⟨hal, 1, f.la i, rfl, hadj⟩
    rw [← e] at h2
    exact (prt_same hg (s := f.la i) (v := f.lb i) (by rw [hsub.sw]; omega) (by rw [hsub.sw]; omega)).1 h2
  · intro hr
    refine prt_eq h hg hsub.sw fun s v => ⟨fun ⟨q1, j, q2⟩ => ⟨hsub.al s q1, j, wlk_mono (fun x y => hsub.adj) q2⟩, fun ⟨q1, j, q2⟩ => ?_⟩
    have key : ∀ j v, wlk f (wls f) j s v → rch (f.fail i) s v := by
      intro j
      induction j with
      | zero => intro v hv; exact ⟨q1, 0, hv⟩
      | succ j ih =>
        rintro v ⟨z, hz, hzv⟩
        have hsz := ih z hz
        refine rch_trans hsz ?_
        have hza := wlk_al hg (fun i hi => hi) hsz.1 hsz.2.choose_spec
        obtain ⟨x, hx, hxy⟩ := hzv
        obtain ⟨m, rfl, hm, hmw⟩ := mem_wkL.1 hx
        rw [Int.toNat_natCast] at hxy
        by_cases hmi : i = m
        · subst hmi
          rcases hxy with ⟨rfl, rfl⟩ | ⟨rfl, rfl⟩
          · exact hr
          · exact rch_symm hg hr
        · refine ⟨hza, 1, z, rfl, (m : Int), mem_wkL.2 ⟨m, rfl, hm, ?_⟩, by rw [Int.toNat_natCast]; exact hxy⟩
          rw [fail_wk f (by omega), hmw]
          have : (i == m) = false := by simpa using hmi
          rw [this]; rfl
    exact key j v q2
theorem rcN_mem (f : FK) (x : Int) : ∀ n, x ∈ rcN f n ↔ ∃ i : Nat, x = i ∧ i < n ∧ f.wk i = true ∧ rcB f i = true
  | 0 => by simp [rcN]
  | n + 1 => by
    have ih := rcN_mem f x n
    have e : rcN f (n + 1) = bif f.wk n && rcB f n then rcN f n ++ [(n : Int)] else rcN f n := rfl
    rw [e]
    constructor
    · intro hx
      cases hc : f.wk n && rcB f n with
      | false =>
        rw [hc, cond_false] at hx
        obtain ⟨i, h1, h2, h3⟩ := ih.1 hx
        exact ⟨i, h1, by omega, h3⟩
      | true =>
        rw [hc, cond_true] at hx
        simp only [Bool.and_eq_true] at hc
        rcases List.mem_append.1 hx with hx | hx
        · obtain ⟨i, h1, h2, h3⟩ := ih.1 hx
          exact ⟨i, h1, by omega, h3⟩
        · simp only [List.mem_singleton] at hx
          exact ⟨n, hx, by omega, hc.1, hc.2⟩
    · rintro ⟨i, rfl, h2, h3, h4⟩
      by_cases hin : i = n
      · subst hin
        rw [h3, h4, Bool.and_self, cond_true]
        simp
      · have := ih.2 ⟨i, rfl, by omega, h3, h4⟩
        cases f.wk n && rcB f n
        · exact this
        · exact List.mem_append_left _ this
theorem wlk_cross {f : FK} {L : List Int} (S : Nat → Bool) : ∀ {j x y : Nat}, wlk f L j x y → S x = true → S y = false → ∃ u v, adj f L u v ∧ S u = true ∧ S v = false
  | 0, x, y, h, h1, h2 => by
    have : x = y := h
    rw [this, h2] at h1; cases h1
  | j + 1, x, y, ⟨z, hz, ha⟩, h1, h2 => by
    cases hs : S z with
    | true => exact ⟨z, y, ha, hs, h2⟩
    | false => exact wlk_cross S hz h1 hs
theorem sumN_term {g : Nat → Int} : ∀ n, (∀ k, k < n → 0 ≤ g k) → ∀ i, i < n → g i ≤ sumN g n
  | 0, _, i, hi => by omega
  | n + 1, h, i, hi => by
    have h0 := sumN_nonneg n fun k hk => h k (by omega)
    have hn := h n (by omega)
    unfold sumN
    by_cases hin : i = n
    · subst hin; omega
    · have := sumN_term n (fun k hk => h k (by omega)) i (by omega)
      omega
/-- Something can flow exactly between switches of one part. -/
theorem flow_pos {f : FK} (h : f.ok = true) {a b : Nat} (ha : a < f.sw.toNat) (hb : b < f.sw.toNat) (hab : a ≠ b) : ∃ r : Int, Spec Try.prog 27 [.agg f.A, .val (.int .i64 (a : Int)), .val (.int .i64 (b : Int))] [] (.val (.int .i64 r)) [] ∧ (0 < r ↔ rch f a b) := by
  obtain ⟨h1, h8, -, -, hdd, -⟩ := FK.ok_facts h
  obtain ⟨r, q1, q2, q3⟩ := Flow_any h a b
  refine ⟨r, q1, ?_⟩
  rcases q3 with ⟨q4, q5⟩ | ⟨⟨q4, q5, q6⟩, q7, S, q8, q9, q10⟩
  · constructor
    · intro q; omega
    · intro hr
      have hb' := (rch_symm h hr).1
      rcases q4 with q4 | q4 | q4
      · exact absurd q4 hab
      · rw [hr.1] at q4; cases q4
      · rw [hb'] at q4; cases q4
  · constructor
    · intro hr
      by_cases h0 : rch f a b
      · exact h0
      · exfalso
        have hS := q7 (fun x => decide (0 ≤ (dsts f a).getD x 0)) (decide_eq_true ((rch_iff h (by omega)).2 (rch_self q5))) (decide_eq_false fun q => h0 ((rch_iff h (by omega)).1 q))
        have : cutV f (fun x => decide (0 ≤ (dsts f a).getD x 0)) = 0 := sumN_zero _ fun i hi => by
          show (bif f.wk i && (decide (0 ≤ (dsts f a).getD (f.la i) 0) != decide (0 ≤ (dsts f a).getD (f.lb i) 0)) then (f.ls.getD i (0, 0, 0)).2.2 else 0) = 0
          cases hw : f.wk i with
          | false => rfl
          | true =>
            obtain ⟨hadj, hal, hbl⟩ := wk_adj h hi hw
            obtain ⟨-, -, la8, lb8, -⟩ := FK.ends h hi
            have e : decide (0 ≤ (dsts f a).getD (f.la i) 0) = decide (0 ≤ (dsts f a).getD (f.lb i) 0) := by
              rcases dist_step h (t := a) (show f.la i < 8 by omega) (show f.lb i < 8 by omega) hadj with ⟨d1, d2⟩ | ⟨d1, d2, _⟩
              · rw [decide_eq_false (by omega), decide_eq_false (by omega)]
              · rw [decide_eq_true d1, decide_eq_true d2]
            rw [e, bne_self_eq_false]; rfl
        omega
    · rintro ⟨_, j, hj⟩
      obtain ⟨u, v, hadj, hu, hv⟩ := wlk_cross S hj q8 q9
      obtain ⟨x, hx, hxy⟩ := hadj
      obtain ⟨m, rfl, hm, hmw⟩ := mem_wkL.1 hx
      rw [Int.toNat_natCast] at hxy
      have hne : (S (f.la m) != S (f.lb m)) = true := by
        rcases hxy with ⟨rfl, rfl⟩ | ⟨rfl, rfl⟩ <;> rw [hu, hv] <;> rfl
      have hc := link_cap h hm
      have := sumN_term (g := fun i => bif f.wk i && (S (f.la i) != S (f.lb i)) then (f.ls.getD i (0, 0, 0)).2.2 else 0) f.ls.length (fun k hk => by
        have := link_cap h hk
        show 0 ≤ bif f.wk k && (S (f.la k) != S (f.lb k)) then (f.ls.getD k (0, 0, 0)).2.2 else 0
        cases f.wk k && (S (f.la k) != S (f.lb k))
        · exact Int.le_refl 0
        · show 0 ≤ (f.ls.getD k (0, 0, 0)).2.2; omega) m hm
      have e : (bif f.wk m && (S (f.la m) != S (f.lb m)) then (f.ls.getD m (0, 0, 0)).2.2 else 0) = (f.ls.getD m (0, 0, 0)).2.2 := by rw [hmw, hne]; rfl
      have h5 : cutV f S = sumN (fun i => bif f.wk i && (S (f.la i) != S (f.lb i)) then (f.ls.getD i (0, 0, 0)).2.2 else 0) f.ls.length := rfl
      rw [e, ← h5] at this
      omega
end Go.Proofs.Ytlmgbfbcaokedaa
