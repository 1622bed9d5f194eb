/-
  Layer 13: the program's parts and cuts are the reference's. About lists only.
-/
import Derived.Test.YtlmgbfbcaokedaaFb13x
import Derived.Test.YtlmgbfbcaokedaaFb13g
import Derived.Test.YtlmgbfbcaokedaaFb13p
import Derived.Test.YtlmgbfbcaokedaaFb13q
namespace Go.Proofs.Ytlmgbfbcaokedaa
open Go.RowKit
theorem pt1_at (m : Int) (d P : List Int) (s : Nat) : ∀ n, n ≤ P.length → (pt1 m d P n).getD s 0 = if s < n ∧ 0 ≤ d.getD s 0 ∧ P.getD s 0 < 0 then m else P.getD s 0
  | 0, _ => by simp [pt1]
  | n + 1, hn => by
    have ih := pt1_at m d P s n (by omega)
    have ihn := pt1_at m d P n n (by omega)
    rw [if_neg (by omega)] at ihn
    unfold pt1
    rw [ihn]
    cases hc : decide (0 ≤ d.getD n 0) && decide (P.getD n 0 < 0) with
    | true =>
      simp only [Bool.and_eq_true, decide_eq_true_eq] at hc
      rw [cond_true, getD_setI, pt1_len]
      by_cases hsn : n = s
      · subst hsn
        rw [if_pos ⟨rfl, by omega⟩, if_pos ⟨by omega, hc.1, hc.2⟩]
      · rw [if_neg (fun q => hsn q.1), ih]
        by_cases hs : s < n
        · have : s < n + 1 := by omega
          simp only [hs, this]
        · have : ¬ s < n + 1 := by omega
          simp only [hs, this]
    | false =>
      rw [cond_false, ih]
      by_cases hsn : n = s
      · subst hsn
        rw [if_neg (by omega), if_neg]
        rintro ⟨-, h1, h2⟩
        have e1 : decide (0 ≤ d.getD n 0) = true := decide_eq_true h1
        have e2 : decide (P.getD n 0 < 0) = true := decide_eq_true h2
        rw [e1, e2] at hc
        cases hc
      · by_cases hs : s < n
        · have : s < n + 1 := by omega
          simp only [hs, this]
        · have : ¬ s < n + 1 := by omega
          simp only [hs, this]
theorem mg_at (n s : Nat) : ∀ j, j ≤ n → (mg n j).getD s 0 = if s < j then -1 else 0
  | 0, _ => by
    rw [if_neg (by omega)]
    show (List.replicate n (0 : Int)).getD s 0 = 0
    rw [List.getD_eq_getElem?_getD, List.getElem?_replicate]
    split <;> rfl
  | j + 1, hj => by
    show ((mg n j).set j (-1)).getD s 0 = _
    rw [getD_setI, mg_len, mg_at n s j (by omega)]
    by_cases h : j = s
    · subst h
      rw [if_pos ⟨rfl, by omega⟩, if_pos (by omega)]
    · rw [if_neg (fun q => h q.1)]
      by_cases hs : s < j
      · rw [if_pos hs, if_pos (by omega)]
      · rw [if_neg hs, if_neg (by omega)]
theorem ptN_at (g : Int → List Int) (n s : Nat) (hs : s < n) : ∀ m, m ≤ n → (ptN g n m).getD s 0 = fstN (fun t => (g (t : Int)).getD s 0) m
  | 0, _ => by
    show (mg n n).getD s 0 = -1
    rw [mg_at n s n (Nat.le_refl _), if_pos hs]
  | m + 1, hm => by
    have ih := ptN_at g n s hs m (by omega)
    show (pt1 m (g m) (ptN g n m) n).getD s 0 = _
    rw [pt1_at _ _ _ _ n (by rw [ptN_len]; exact Nat.le_refl _), ih]
    show _ = bif decide (0 ≤ (g (m : Int)).getD s 0) && decide (fstN (fun t => (g (t : Int)).getD s 0) m < 0) then (m : Int) else fstN (fun t => (g (t : Int)).getD s 0) m
    by_cases h1 : 0 ≤ (g (m : Int)).getD s 0
    · by_cases h2 : fstN (fun t => (g (t : Int)).getD s 0) m < 0
      · rw [if_pos ⟨hs, h1, h2⟩, decide_eq_true h1, decide_eq_true h2]; rfl
      · rw [if_neg (fun q => h2 q.2.2), decide_eq_false h2, Bool.and_false]; rfl
    · rw [if_neg (fun q => h1 q.2.1), decide_eq_false h1]; rfl
theorem rpN_at (g : Nat → List Int) (N s : Nat) : ∀ m, s < m → (rpN g N m).getD s 0 = fstN (fun t => (g s).getD t 0) N
  | 0, h => by omega
  | m + 1, h => by
    show (rpN g N m ++ [fstN (fun t => (g m).getD t 0) N]).getD s 0 = _
    have hl := rpN_len g N m
    rw [List.getD_eq_getElem?_getD]
    by_cases hm : s < m
    · rw [List.getElem?_append_left (by omega), ← List.getD_eq_getElem?_getD]
      exact rpN_at g N s m hm
    · have : s = m := by omega
      subst this
      rw [List.getElem?_append_right (by omega), hl, Nat.sub_self]
      rfl
theorem fstN_congr {h k : Nat → Int} : ∀ n, (∀ t, t < n → (0 ≤ h t ↔ 0 ≤ k t)) → fstN h n = fstN k n
  | 0, _ => rfl
  | n + 1, hh => by
    have ih := fstN_congr n fun t ht => hh t (by omega)
    unfold fstN
    rw [ih]
    have : decide (0 ≤ h n) = decide (0 ≤ k n) := by
      have := hh n (by omega)
      by_cases h1 : 0 ≤ h n
      · rw [decide_eq_true h1, decide_eq_true (this.1 h1)]
      · rw [decide_eq_false h1, decide_eq_false (fun q => h1 (this.2 q))]
    rw [this]
theorem distZ_neg {f : FK} {L : List Int} {to : Int} (h : f.al to = false) (v : Nat) (hv : v < 8) : (distZ f L to).getD v 0 = -1 := by
  unfold distZ
  rw [h, cond_false, List.getD_eq_getElem?_getD, List.getElem?_replicate, if_pos hv]
  rfl
/-- What it means that a distance isn't negative. -/
theorem dist_nonneg {f : FK} (h : f.ok = true) {L : List Int} (hL : ∀ i ∈ L, i ∈ wls f) {s v : Nat} (hv : v < 8) : 0 ≤ (distZ f L s).getD v 0 ↔ f.al s = true ∧ ∃ j, wlk f L j s v := by
  cases ha : f.al s with
  | false =>
    rw [distZ_neg ha v hv]
    constructor
    · intro h; omega
    · rintro ⟨h, _⟩; cases h
  | true =>
    have hD := isD_distZ h hL ha
    rcases hD.2 v hv with ⟨h1, h2⟩ | ⟨k, h1, h2, h3, h4⟩
    · rw [h1]
      constructor
      · intro h; omega
      · rintro ⟨_, j, hj⟩; exact absurd hj (h2 j)
    · rw [h1]
      exact ⟨fun _ => ⟨rfl, k, h3⟩, fun _ => by omega⟩
theorem wlk_al {f : FK} (h : f.ok = true) {L : List Int} (hL : ∀ i ∈ L, i ∈ wls f) {j x y : Nat} (hx : f.al x = true) (hw : wlk f L j x y) : f.al y = true := by
  cases j with
  | zero =>
    have : x = y := hw
    subst this
    exact hx
  | succ j =>
    obtain ⟨z, _, ha⟩ := hw
    exact (adj_al h hL ha).2
theorem dist_symm0 {f : FK} (h : f.ok = true) {L : List Int} (hL : ∀ i ∈ L, i ∈ wls f) {s v : Nat} (hs : s < 8) (hv : v < 8) : 0 ≤ (distZ f L s).getD v 0 ↔ 0 ≤ (distZ f L v).getD s 0 := by
  rw [dist_nonneg h hL hv, dist_nonneg h hL hs]
  constructor
  · rintro ⟨h1, j, hj⟩
    exact ⟨wlk_al h hL h1 hj, j, wlk_symm hj⟩
  · rintro ⟨h1, j, hj⟩
    exact ⟨wlk_al h hL h1 hj, j, wlk_symm hj⟩
theorem parts_eq {f : FK} (h : f.ok = true) : ptN (dsts f) f.sw.toNat f.sw.toNat = rpN (fun s => (dsts f s).take f.sw.toNat) f.sw.toNat f.sw.toNat := by
  obtain ⟨h1, h2, -, -, -, -⟩ := FK.ok_facts h
  refine getD_ext (by rw [ptN_len, rpN_len]) fun s hs => ?_
  rw [ptN_len] at hs
  rw [ptN_at _ _ _ hs _ (Nat.le_refl _), rpN_at _ _ _ _ hs]
  refine fstN_congr _ fun t ht => ?_
  rw [getD_take _ _ _ ht]
  exact dist_symm0 h (fun i hi => hi) (by omega) (by omega)
theorem fail_la (f : FK) (i : Nat) : (f.fail i).la = f.la ∧ (f.fail i).lb = f.lb ∧ (f.fail i).al = f.al ∧ (f.fail i).sw = f.sw ∧ (f.fail i).ls = f.ls := ⟨rfl, rfl, rfl, rfl, rfl⟩
theorem fail_wk (f : FK) {i : Nat} (hi : i < f.dn.length) (j : Nat) : (f.fail i).wk j = (f.wk j && !(i == j)) := by
  unfold FK.wk
  show (!(f.dn.set i true).getD j false && _ && _) = _
  have : (f.dn.set i true).getD j false = (f.dn.getD j false || (i == j)) := by
    simp only [List.getD_eq_getElem?_getD, List.getElem?_set]
    by_cases h : i = j
    · subst h; simp [hi]
    · have : (i == j) = false := by simpa using h
      simp [h, this]
  rw [this]
  show (!(f.dn.getD j false || (i == j)) && !f.dd.getD (f.la j) false && !f.dd.getD (f.lb j) false) = _
  cases f.dn.getD j false <;> cases (i == j) <;> cases f.dd.getD (f.la j) false <;> cases f.dd.getD (f.lb j) false <;> rfl
theorem rxN_fail (f : FK) (i : Nat) (L : List Int) (d : List Int) : ∀ m, rxN (f.fail i) L m d = rxN f L m d
  | 0 => rfl
  | m + 1 => by
    show rxL (f.fail i) m L (rxN (f.fail i) L m d) = rxL f m L (rxN f L m d)
    rw [rxN_fail f i L d m]
    rfl
theorem distZ_fail (f : FK) (i : Nat) (L : List Int) (to : Int) : distZ (f.fail i) L to = distZ f L to := by
  unfold distZ
  rw [rxN_fail]
  rfl
theorem wkL_take {f : FK} {n : Nat} : ∀ m, n ≤ m → ∃ R, wkL f m = wkL f n ++ R ∧ ∀ x ∈ R, ∃ j : Nat, x = j ∧ n ≤ j
  | 0, h => by
    have : n = 0 := by omega
    subst this
    exact ⟨[], by simp, fun x hx => by cases hx⟩
  | m + 1, h => by
    by_cases hm : n = m + 1
    · subst hm
      exact ⟨[], by simp, fun x hx => by cases hx⟩
    · obtain ⟨R, e1, e2⟩ := wkL_take (f := f) (n := n) m (by omega)
      rw [wkL_succ, e1]
      cases f.wk m with
      | true =>
        refine ⟨R ++ [(m : Int)], by simp, fun x hx => ?_⟩
        rcases List.mem_append.1 hx with hx | hx
        · exact e2 x hx
        · simp only [List.mem_singleton] at hx
          exact ⟨m, hx, by omega⟩
      | false => exact ⟨R, by simp, e2⟩
/-- The links of the fabric without one. -/
theorem wkL_fail {f : FK} {i : Nat} (hi : i < f.dn.length) : ∀ n, wkL (f.fail i) n = if i < n ∧ f.wk i = true then oth (wkL f n) (wkL f i).length else wkL f n
  | 0 => by rw [if_neg (by omega)]; rfl
  | n + 1 => by
    have ih := wkL_fail hi n
    rw [wkL_succ, wkL_succ, fail_wk f hi, ih]
    by_cases hin : i < n
    · obtain ⟨R, e1, -⟩ := wkL_take (f := f) (n := i + 1) n (by omega)
      have hne : (i == n) = false := by simp; omega
      rw [hne, Bool.not_false, Bool.and_true]
      by_cases hw : f.wk i = true
      · rw [if_pos ⟨hin, hw⟩, if_pos ⟨by omega, hw⟩]
        have hlt : (wkL f i).length < (wkL f n).length := by
          rw [e1, wkL_succ, hw]
          simp
        unfold oth
        cases f.wk n with
        | true =>
          rw [cond_true, cond_true, List.take_append_of_le_length (by omega), List.drop_append_of_le_length (by omega), List.append_assoc]
        | false => rfl
      · rw [if_neg (fun q => hw q.2), if_neg (fun q => hw q.2)]
    · by_cases hie : i = n
      · subst hie
        rw [if_neg (by omega)]
        have hne : (i == i) = true := by simp
        rw [hne, Bool.not_true, Bool.and_false, cond_false]
        by_cases hw : f.wk i = true
        · rw [if_pos ⟨by omega, hw⟩, hw, cond_true]
          unfold oth
          rw [List.take_left' rfl, List.drop_eq_nil_of_le (by simp)]
          simp
        · have hw' : f.wk i = false := by simpa using hw
          rw [if_neg (fun q => hw q.2), hw', cond_false]
      · have hne : (i == n) = false := by simpa using hie
        rw [if_neg (by omega), if_neg (by omega), hne, Bool.not_false, Bool.and_true]
theorem cuts_eq {f : FK} (h : f.ok = true) : cutN f (wls f) (wls f).length = rcN f f.ls.length := by
  obtain ⟨h1, h2, -, hdn, hdd, -⟩ := FK.ok_facts h
  have key : ∀ i, i ≤ f.ls.length → cutN f (wls f) (wkL f i).length = rcN f i := by
    intro i
    induction i with
    | zero => intro _; rfl
    | succ i ih =>
      intro hi
      have ih := ih (by omega)
      rw [wkL_succ]
      show _ = bif f.wk i && rcB f i then rcN f i ++ [(i : Int)] else rcN f i
      cases hw : f.wk i with
      | false => rw [cond_false, Bool.false_and, cond_false]; exact ih
      | true =>
        rw [cond_true, Bool.true_and, List.length_append, List.length_singleton]
        obtain ⟨R, e1, -⟩ := wkL_take (f := f) (n := i + 1) f.ls.length (by omega)
        have hat : (wls f).getD (wkL f i).length 0 = (i : Int) := by
          show (wkL f f.ls.length).getD (wkL f i).length 0 = _
          rw [e1, wkL_succ, hw, cond_true, List.append_assoc, List.getD_eq_getElem?_getD, List.getElem?_append_right (by omega), Nat.sub_self]
          rfl
        have hc : isCut f (wls f) (wkL f i).length = rcB f i := by
          obtain ⟨-, -, h3, h4, -⟩ := FK.ends h (show i < f.ls.length by omega)
          unfold isCut rcB
          rw [hat, Int.toNat_natCast, getD_take _ _ _ (by omega)]
          unfold dsts
          rw [distZ_fail]
          have := wkL_fail (f := f) (i := i) (by omega) f.ls.length
          rw [if_pos ⟨by omega, hw⟩] at this
          rw [show (f.fail i).ls = f.ls from rfl, this]
        show (bif isCut f (wls f) (wkL f i).length then cutN f (wls f) (wkL f i).length ++ [(wls f).getD (wkL f i).length 0] else cutN f (wls f) (wkL f i).length) = _
        rw [hc, hat, ih]
  exact key _ (Nat.le_refl _)
end Go.Proofs.Ytlmgbfbcaokedaa
