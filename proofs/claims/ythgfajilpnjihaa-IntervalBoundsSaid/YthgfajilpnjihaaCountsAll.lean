/-
  Layer 39: numbers of sets, for all numbers: the program's answers and the reference's, in one form.
-/
import Derived.Test.YthgfajilpnjihaaRefChoose
namespace Go.Proofs.Ythgfajilpnjihaa
open Go.RowKit

def okC (n k : Int) : Prop := 0 ≤ n ∧ n ≤ 60 ∧ 0 ≤ k ∧ k ≤ n
instance (n k : Int) : Decidable (okC n k) := by unfold okC; exact inferInstance
def okP (p s m : Int) : Prop := 0 ≤ p ∧ p ≤ 60 ∧ 0 ≤ s ∧ s ≤ p ∧ 0 ≤ m ∧ m ≤ p
instance (p s m : Int) : Decidable (okP p s m) := by unfold okP; exact inferInstance
def chV (n k : Int) : Int := if okC n k then (C n.toNat k.toNat : Int) else 0
def chE (n k : Int) : Int := if okC n k then 0 else 1
def leV (p s m t : Int) : Int := if okP p s m then many p.toNat s.toNat m.toNat t s else 0
def moV (p s m t : Int) : Int := if okP p s m then many p.toNat s.toNat m.toNat 0 t else 0
def pE (p s m : Int) : Int := if okP p s m then 0 else 1

def Two (w : World) (x y : Int) (e : Ending) (w' : World) : Prop := e = .returned (.tuple #[.int .i64 x, .int .i64 y]) ∧ Below w.heap.size w w'
theorem two_ok {w w' : World} {n k : Int} {v : Int} (h : okC n k) (hv : v = C n.toNat k.toNat) (hb : Below w.heap.size w w') : Two w (chV n k) (chE n k) (.returned (.tuple #[.int .i64 v, .int .i64 0])) w' := by
  refine ⟨?_, hb⟩; unfold chV chE; rw [if_pos h, if_pos h, hv]
theorem two_no {w w' : World} {n k : Int} (h : ¬ okC n k) (hb : Below w.heap.size w w') : Two w (chV n k) (chE n k) (.returned (.tuple #[.int .i64 0, .int .i64 1])) w' := by
  refine ⟨?_, hb⟩; unfold chV chE; rw [if_neg h, if_neg h]
theorem le_ok {w w' : World} {p s m t v : Int} (h : okP p s m) (hv : v = many p.toNat s.toNat m.toNat t s) (hb : Below w.heap.size w w') : Two w (leV p s m t) (pE p s m) (.returned (.tuple #[.int .i64 v, .int .i64 0])) w' := by
  refine ⟨?_, hb⟩; unfold leV pE; rw [if_pos h, if_pos h, hv]
theorem le_no {w w' : World} {p s m t : Int} (h : ¬ okP p s m) (hb : Below w.heap.size w w') : Two w (leV p s m t) (pE p s m) (.returned (.tuple #[.int .i64 0, .int .i64 1])) w' := by
  refine ⟨?_, hb⟩; unfold leV pE; rw [if_neg h, if_neg h]
theorem mo_ok {w w' : World} {p s m t v : Int} (h : okP p s m) (hv : v = many p.toNat s.toNat m.toNat 0 t) (hb : Below w.heap.size w w') : Two w (moV p s m t) (pE p s m) (.returned (.tuple #[.int .i64 v, .int .i64 0])) w' := by
  refine ⟨?_, hb⟩; unfold moV pE; rw [if_pos h, if_pos h, hv]
theorem mo_no {w w' : World} {p s m t : Int} (h : ¬ okP p s m) (hb : Below w.heap.size w w') : Two w (moV p s m t) (pE p s m) (.returned (.tuple #[.int .i64 0, .int .i64 1])) w' := by
  refine ⟨?_, hb⟩; unfold moV pE; rw [if_neg h, if_neg h]

/-! ### The program -/
set_option maxHeartbeats 1000000 in
theorem choose_all (n k : Int) (w : World) : Calls Try.prog 12 #[.int .i64 n, .int .i64 k] w (Two w (chV n k) (chE n k)) := by
  by_cases h1 : n < 0 ∨ 60 < n
  · refine (choose_no n k w h1).mono ?_
    rintro e w1 ⟨rfl, rfl⟩
    exact two_no (by unfold okC; omega) (Below.refl _ _)
  by_cases h2 : k < 0 ∨ n < k
  · have hn := fun w' => two_no (w := w) (w' := w') (n := n) (k := k) (by unfold okC; omega)
    have HN := Lib.hid hn; clear hn
    have h3 : 0 ≤ n := by omega
    have h4 : n ≤ 60 := by omega
    have H2 := Lib.hid h2
    clear h1 h2
    go_enter Try.func12, Try.ntmps12
    go_wp2_with fail
    refine (within_yes _ _ _ _ h3 h4).mono ?_
    rintro e w1 ⟨rfl, rfl⟩
    go_wp2_with fail
    refine (within_no _ _ _ _ H2.out).mono ?_
    rintro e w1 ⟨rfl, rfl⟩
    go_wp2
    go_ret2
    exact HN.out _ (Below.refl _ _)
  obtain ⟨n, rfl⟩ := Int.eq_ofNat_of_zero_le (show 0 ≤ n by omega)
  obtain ⟨k, rfl⟩ := Int.eq_ofNat_of_zero_le (show 0 ≤ k by omega)
  refine (choose_ok n k w (by omega) (by omega)).mono ?_
  rintro e w1 ⟨rfl, hb⟩
  exact two_ok (by unfold okC; omega) rfl hb

set_option maxHeartbeats 400000 in
theorem pool_bad (p s : Int) (w : World) (h1 : p < 0 ∨ 60 < p ∨ s < 0 ∨ p < s) : Calls Try.prog 18 #[.int .i64 p, .int .i64 s] w fun e w' => e = .returned (.bool false) ∧ w = w' := by
  by_cases h2 : p < 0 ∨ 60 < p
  · exact pool_no p s w h2
  have h3 : 0 ≤ p := by omega
  have h4 : p ≤ 60 := by omega
  have H5 := Lib.hid (show s < 0 ∨ p < s by omega)
  clear h1 h2
  go_enter Try.func18, Try.ntmps18
  go_wp2_with fail
  refine (within_yes _ _ _ _ h3 h4).mono ?_
  rintro e w1 ⟨rfl, rfl⟩
  go_wp2_with fail
  refine (within_no _ _ _ _ H5.out).mono ?_
  rintro e w1 ⟨rfl, rfl⟩
  go_wp2
  go_ret
  exact ⟨rfl, rfl⟩

set_option maxHeartbeats 1000000 in
theorem least_all (p s m t : Int) (w : World) : Calls Try.prog 14 #[.int .i64 p, .int .i64 s, .int .i64 m, .int .i64 t] w (Two w (leV p s m t) (pE p s m)) := by
  by_cases hok : okP p s m
  · have h := hok
    unfold okP at h
    obtain ⟨p, rfl⟩ := Int.eq_ofNat_of_zero_le (show 0 ≤ p by omega)
    obtain ⟨s, rfl⟩ := Int.eq_ofNat_of_zero_le (show 0 ≤ s by omega)
    obtain ⟨m, rfl⟩ := Int.eq_ofNat_of_zero_le (show 0 ≤ m by omega)
    refine (atleast_ok p s m t w (by omega) (by omega) (by omega)).mono ?_
    rintro e w1 ⟨rfl, hb⟩
    exact le_ok hok rfl hb
  have HN := Lib.hid (fun w' => le_no (w := w) (w' := w') (t := t) hok)
  unfold okP at hok
  by_cases h1 : p < 0 ∨ 60 < p ∨ s < 0 ∨ p < s
  · have H1 := Lib.hid h1
    clear hok h1
    go_enter Try.func14, Try.ntmps14
    go_wp2_with fail
    refine (pool_bad _ _ _ H1.out).mono ?_
    rintro e w1 ⟨rfl, rfl⟩
    go_wp2
    go_ret2
    exact HN.out _ (Below.refl _ _)
  obtain ⟨p, rfl⟩ := Int.eq_ofNat_of_zero_le (show 0 ≤ p by omega)
  obtain ⟨s, rfl⟩ := Int.eq_ofNat_of_zero_le (show 0 ≤ s by omega)
  have H2 := Lib.hid (show m < 0 ∨ (p : Int) < m by omega)
  have h3 : p ≤ 60 := by omega
  have h4 : s ≤ p := by omega
  clear hok h1
  go_enter Try.func14, Try.ntmps14
  go_wp2_with fail
  refine (pool_yes _ _ _ h3 h4).mono ?_
  rintro e w1 ⟨rfl, rfl⟩
  go_wp2_with fail
  refine (within_no _ _ _ _ H2.out).mono ?_
  rintro e w1 ⟨rfl, rfl⟩
  go_wp2
  go_ret2
  exact HN.out _ (Below.refl _ _)

set_option maxHeartbeats 1000000 in
theorem most_all (p s m t : Int) (w : World) : Calls Try.prog 16 #[.int .i64 p, .int .i64 s, .int .i64 m, .int .i64 t] w (Two w (moV p s m t) (pE p s m)) := by
  by_cases hok : okP p s m
  · have h := hok
    unfold okP at h
    obtain ⟨p, rfl⟩ := Int.eq_ofNat_of_zero_le (show 0 ≤ p by omega)
    obtain ⟨s, rfl⟩ := Int.eq_ofNat_of_zero_le (show 0 ≤ s by omega)
    obtain ⟨m, rfl⟩ := Int.eq_ofNat_of_zero_le (show 0 ≤ m by omega)
    refine (atmost_ok p s m t w (by omega) (by omega) (by omega)).mono ?_
    rintro e w1 ⟨rfl, hb⟩
    exact mo_ok hok rfl hb
  have HN := Lib.hid (fun w' => mo_no (w := w) (w' := w') (t := t) hok)
  unfold okP at hok
  by_cases h1 : p < 0 ∨ 60 < p ∨ s < 0 ∨ p < s
  · have H1 := Lib.hid h1
    clear hok h1
    go_enter Try.func16, Try.ntmps16
    go_wp2_with fail
    refine (pool_bad _ _ _ H1.out).mono ?_
    rintro e w1 ⟨rfl, rfl⟩
    go_wp2
    go_ret2
    exact HN.out _ (Below.refl _ _)
  obtain ⟨p, rfl⟩ := Int.eq_ofNat_of_zero_le (show 0 ≤ p by omega)
  obtain ⟨s, rfl⟩ := Int.eq_ofNat_of_zero_le (show 0 ≤ s by omega)
  have H2 := Lib.hid (show m < 0 ∨ (p : Int) < m by omega)
  have h3 : p ≤ 60 := by omega
  have h4 : s ≤ p := by omega
  clear hok h1
  go_enter Try.func16, Try.ntmps16
  go_wp2_with fail
  refine (pool_yes _ _ _ h3 h4).mono ?_
  rintro e w1 ⟨rfl, rfl⟩
  go_wp2_with fail
  refine (within_no _ _ _ _ H2.out).mono ?_
  rintro e w1 ⟨rfl, rfl⟩
  go_wp2
  go_ret2
  exact HN.out _ (Below.refl _ _)

/-! ### The reference -/
set_option maxHeartbeats 1000000 in
theorem rch_all (n k : Int) (w : World) : Calls Try.prog 13 #[.int .i64 n, .int .i64 k] w (Two w (chV n k) (chE n k)) := by
  by_cases hok : okC n k
  · have h := hok
    unfold okC at h
    obtain ⟨n, rfl⟩ := Int.eq_ofNat_of_zero_le (show 0 ≤ n by omega)
    obtain ⟨k, rfl⟩ := Int.eq_ofNat_of_zero_le (show 0 ≤ k by omega)
    have HY := Lib.hid (fun w' => two_ok (w := w) (w' := w') (v := CI n k) hok (by unfold CI; rw [if_neg (by omega)]; simp))
    have h1 : n ≤ 60 := by omega
    have h2 : k ≤ n := by omega
    clear hok h
    go_enter Try.func13, Try.ntmps13
    go_wp2_with fail
    refine (rchoose_any n k _ h1).mono ?_
    rintro e w1 ⟨rfl, hb⟩
    go_wp2
    go_ret2
    exact HY.out _ hb
  have HN := Lib.hid (fun w' => two_no (w := w) (w' := w') hok)
  unfold okC at hok
  rcases (show n < 0 ∨ 60 < n ∨ k < 0 ∨ n < k by omega) with h | h | h | h
  all_goals
    clear hok
    go_enter Try.func13, Try.ntmps13
    go_wp2
    all_goals
      go_ret2
      exact HN.out _ (Below.refl _ _)

set_option maxHeartbeats 400000 in
theorem bad_no (p s m : Nat) (w : World) (h1 : p ≤ 60) (h2 : s ≤ p) (h3 : m ≤ p) : Calls Try.prog 24 #[.int .i64 p, .int .i64 s, .int .i64 m] w fun e w' => e = .returned (.bool false) ∧ w = w' := by
  go_enter Try.func24, Try.ntmps24
  go_wp2
  go_ret
  exact ⟨congrArg (fun b => Ending.returned (.bool b)) (by simp; omega), rfl⟩
set_option maxHeartbeats 1000000 in
theorem bad_yes (p s m : Int) (w : World) (h : ¬ okP p s m) : Calls Try.prog 24 #[.int .i64 p, .int .i64 s, .int .i64 m] w fun e w' => e = .returned (.bool true) ∧ w = w' := by
  unfold okP at h
  rcases (show p < 0 ∨ 60 < p ∨ s < 0 ∨ p < s ∨ m < 0 ∨ p < m by omega) with g | g | g | g | g | g
  all_goals
    clear h
    go_enter Try.func24, Try.ntmps24
    go_wp2
    all_goals
      go_ret
      exact ⟨congrArg (fun b => Ending.returned (.bool b)) (by first | rfl | exact decide_eq_true (by omega)), rfl⟩

set_option maxHeartbeats 1000000 in
theorem exactly_any (p s m i : Nat) (w : World) (h1 : p ≤ 60) (h2 : s ≤ p) (h3 : m ≤ p) (h4 : i ≤ s) : Calls Try.prog 26 #[.int .i64 p, .int .i64 s, .int .i64 m, .int .i64 i] w fun e w' =>
    e = .returned (.int .i64 (term m (p - m) s i)) ∧ Below w.heap.size w w' := by
  have e1 : CI m (i : Int) = C m i := by unfold CI; rw [if_neg (by omega)]; simp
  have e2 : CI (p - m) ((s : Int) - i) = C (p - m) (s - i) := by unfold CI; rw [if_neg (by omega), show ((s : Int) - i).toNat = s - i by omega]
  have e3 : (C m i : Int) * (C (p - m) (s - i) : Int) = (term m (p - m) s i : Int) := by unfold term; simp
  have e4 := term_le m (p - m) s i h4
  have e5 := C_small (m + (p - m)) s (by omega)
  have e6 : IntKind.i64.wrap ((C m i : Int) * (C (p - m) (s - i) : Int)) = (term m (p - m) s i : Int) := by rw [e3]; exact IntWalk.i64_in _ (by omega)
  have t1 : ((p : Int) - m) = ((p - m : Nat) : Int) := by omega
  have E1 := Lib.hid e1
  have E2 := Lib.hid e2
  have T1 := Lib.hid t1
  clear e1 e2 e3 e4 e5 t1
  go_enter Try.func26, Try.ntmps26
  go_wp2_with fail
  refine (rchoose_any m i _ (by omega)).mono ?_
  rintro e w1 ⟨rfl, hb1⟩
  rw [E1.out]
  go_wp2_with fail
  rw [T1.out]
  refine (rchoose_any (p - m) ((s : Int) - i) _ (by omega)).mono ?_
  rintro e w2 ⟨rfl, hb2⟩
  rw [E2.out]
  go_wp2
  go_ret
  exact ⟨rfl, hb1.trans (hb2.mono hb1.size)⟩

/-- Where there are no so many marked things nothing is added. -/
theorem span_same (p s m : Nat) (lo hi : Int) (h0 : 0 ≤ lo) : span p s m lo (min hi m) = span p s m lo hi := by
  unfold span
  by_cases h : hi ≤ m
  · rw [show min hi (m : Int) = hi by omega]
  · have e1 : min hi (m : Int) = m := by omega
    rw [e1]
    obtain ⟨d, hd⟩ : ∃ d : Nat, (max lo (hi + 1)).toNat = (max lo ((m : Int) + 1)).toNat + d := ⟨(max lo (hi + 1)).toNat - (max lo ((m : Int) + 1)).toNat, by omega⟩
    rw [hd, sumTo_zeros (term m (p - m) s) _ d (fun i h2 h3 => by
      show C m i * _ = 0
      rw [C_big m i (by omega)]; omega)]

set_option maxHeartbeats 2000000 in
theorem rleast_all (p s m t : Int) (w : World) : Calls Try.prog 15 #[.int .i64 p, .int .i64 s, .int .i64 m, .int .i64 t] w (Two w (leV p s m t) (pE p s m)) := by
  by_cases hok : okP p s m
  · have h := hok
    unfold okP at h
    obtain ⟨p, rfl⟩ := Int.eq_ofNat_of_zero_le (show 0 ≤ p by omega)
    obtain ⟨s, rfl⟩ := Int.eq_ofNat_of_zero_le (show 0 ≤ s by omega)
    obtain ⟨m, rfl⟩ := Int.eq_ofNat_of_zero_le (show 0 ≤ m by omega)
    have h1 : p ≤ 60 := by omega
    have h2 : s ≤ p := by omega
    have h3 : m ≤ p := by omega
    clear h
    obtain ⟨lo, hlo⟩ : ∃ lo : Nat, max t 0 = lo := ⟨(max t 0).toNat, by omega⟩
    have hfin : ∀ w', Below w.heap.size w w' → Two w (leV p s m t) (pE p s m) (.returned (.tuple #[.int .i64 ((sumTo (term m (p - m) s) (max lo (s + 1)) : Int) - sumTo (term m (p - m) s) lo), .int .i64 0])) w' := fun w' => by
      refine le_ok hok ?_
      show _ = many p s m t s
      unfold many
      rw [show min (min (s : Int) s) m = min (s : Int) m by omega, hlo, span_same p s m lo s (by omega)]
      unfold span
      rw [show (max (lo : Int) ((s : Int) + 1)).toNat = max lo (s + 1) by omega]; simp
    have HF := Lib.hid hfin
    clear hfin hok
    have HM := Lib.hid (fun k (h : lo ≤ k) => by
      have h0 := sumTo_mono (term m (p - m) s) lo (k - lo)
      rwa [show lo + (k - lo) = k by omega] at h0)
    have HP2 := Lib.hid (fun k (h : k ≤ s + 1) => part_le m (p - m) s k h)
    have HCs := Lib.hid (C_small (m + (p - m)) s (by omega))
    by_cases ht : 0 ≤ t
    all_goals
      have HT := Lib.hid (show max t 0 = lo from hlo)
      first
        | (have ht' : t < 0 := by omega
           clear ht)
        | skip
      clear hlo
      go_enter Try.func15, Try.ntmps15
      go_wp2_with fail
      refine (bad_no p s m _ h1 h2 h3).mono ?_
      rintro e w1 ⟨rfl, rfl⟩
      go_wp2_with fail
      go_loopw [10, 11] (fun v i wr => ∃ k : Nat, lo ≤ k ∧ k ≤ max lo (s + 1) ∧ i = .int .i64 k ∧ v = .int .i64 ((sumTo (term m (p - m) s) k : Int) - sumTo (term m (p - m) s) lo) ∧ Below w.heap.size w wr) (fun _ i _ => max lo (s + 1) - (intOf i).toNat)
      case atStart => exact ⟨lo, Nat.le_refl _, by omega, congrArg (Value.int .i64) (by have := HT.out; omega), by simp, Below.refl _ _⟩
      case round =>
        obtain ⟨k, hk0, hk, rfl, rfl, hbel⟩ := hrel
        by_cases hlt : (k : Int) ≤ s
        · have e2 := term_le m (p - m) s k (by omega)
          have e3 := HP2.out (k + 1) (by omega)
          have e4 := HM.out k hk0
          have e5 := HCs.out
          have e6 : sumTo (term m (p - m) s) (k + 1) = sumTo (term m (p - m) s) k + term m (p - m) s k := rfl
          have E6 := Lib.hid e6
          have hks : k ≤ s := by omega
          have hcall := Lib.hid (fun W => exactly_any p s m k W h1 h2 h3 hks)
          generalize term m (p - m) s k = tt at e2 e6 E6 hcall
          generalize sumTo (term m (p - m) s) k = s1 at e4 e6 E6
          generalize sumTo (term m (p - m) s) lo = s0 at e4
          have q1 : (s0 : Int) ≤ s1 := by omega
          have q2 : (s1 : Int) - s0 + tt ≤ 1152921504606846976 := by omega
          have q3 : 0 ≤ (s1 : Int) - s0 := by omega
          have q4 : 0 ≤ (s1 : Int) - s0 + tt := by omega
          clear e2 e3 e4 e5 e6
          go_wp2_with fail
          refine (hcall.out _).mono ?_
          rintro e w2 ⟨rfl, hb2⟩
          go_wp2
          go_roundw
          case rel => exact ⟨k + 1, by omega, by omega, by go_num, congrArg (Value.int .i64) (by have := E6.out; omega), hbel.trans (hb2.mono hbel.size)⟩
          case measure => simp [intOf]; omega
        · obtain rfl : k = max lo (s + 1) := by omega
          go_wp2
          go_ret2
          exact HF.out _ hbel
  have HN := Lib.hid (fun w' => le_no (w := w) (w' := w') (t := t) hok)
  go_enter Try.func15, Try.ntmps15
  go_wp2_with fail
  refine (bad_yes p s m _ hok).mono ?_
  rintro e w1 ⟨rfl, rfl⟩
  go_wp2
  go_ret2
  exact HN.out _ (Below.refl _ _)

set_option maxHeartbeats 2000000 in
theorem rmost_all (p s m t : Int) (w : World) : Calls Try.prog 17 #[.int .i64 p, .int .i64 s, .int .i64 m, .int .i64 t] w (Two w (moV p s m t) (pE p s m)) := by
  by_cases hok : okP p s m
  · have h := hok
    unfold okP at h
    obtain ⟨p, rfl⟩ := Int.eq_ofNat_of_zero_le (show 0 ≤ p by omega)
    obtain ⟨s, rfl⟩ := Int.eq_ofNat_of_zero_le (show 0 ≤ s by omega)
    obtain ⟨m, rfl⟩ := Int.eq_ofNat_of_zero_le (show 0 ≤ m by omega)
    have h1 : p ≤ 60 := by omega
    have h2 : s ≤ p := by omega
    have h3 : m ≤ p := by omega
    clear h
    have HP2 := Lib.hid (fun k (h : k ≤ s + 1) => part_le m (p - m) s k h)
    have HCs := Lib.hid (C_small (m + (p - m)) s (by omega))
    rcases (show t ≤ (s : Int) ∨ (s : Int) < t by omega) with hts | hts
    · have hfin : ∀ w', Below w.heap.size w w' → Two w (moV p s m t) (pE p s m) (.returned (.tuple #[.int .i64 (sumTo (term m (p - m) s) (t + 1).toNat : Int), .int .i64 0])) w' := fun w' => by
        refine mo_ok hok ?_
        show _ = many p s m 0 t
        unfold many
        rw [show min t (s : Int) = t by omega, span_same p s m _ _ (by omega)]
        unfold span
        rw [show (max (max (0 : Int) 0) (t + 1)).toNat = (t + 1).toNat by omega]
        show _ = _ - ((0 : Nat) : Int)
        omega
      have HF := Lib.hid hfin
      clear hfin hok
      have hTs : t ≤ s := by omega
      go_enter Try.func17, Try.ntmps17
      go_wp2_with fail
      refine (bad_no p s m _ h1 h2 h3).mono ?_
      rintro e w1 ⟨rfl, rfl⟩
      go_wp2_with fail
      go_loopw [10, 11] (fun v i wr => ∃ k : Nat, k ≤ (t + 1).toNat ∧ i = .int .i64 k ∧ v = .int .i64 (sumTo (term m (p - m) s) k : Int) ∧ Below w.heap.size w wr) (fun _ i _ => (t + 1).toNat - (intOf i).toNat)
      case atStart => exact ⟨0, Nat.zero_le _, rfl, rfl, Below.refl _ _⟩
      case round =>
        obtain ⟨k, hk, rfl, rfl, hbel⟩ := hrel
        by_cases hlt : (k : Int) ≤ t
        · have e2 := term_le m (p - m) s k (by omega)
          have e3 := HP2.out (k + 1) (by omega)
          have e5 := HCs.out
          have e6 : sumTo (term m (p - m) s) (k + 1) = sumTo (term m (p - m) s) k + term m (p - m) s k := rfl
          have E6 := Lib.hid e6
          have hks : k ≤ s := by omega
          have hcall := Lib.hid (fun W => exactly_any p s m k W h1 h2 h3 hks)
          generalize term m (p - m) s k = tt at e2 e6 E6 hcall
          generalize sumTo (term m (p - m) s) k = s1 at e6 E6
          have q2 : (s1 : Int) + tt ≤ 1152921504606846976 := by omega
          clear e2 e3 e5 e6
          go_wp2_with fail
          refine (hcall.out _).mono ?_
          rintro e w2 ⟨rfl, hb2⟩
          go_wp2
          go_roundw
          case rel => exact ⟨k + 1, by omega, by go_num, congrArg (Value.int .i64) (by have := E6.out; omega), hbel.trans (hb2.mono hbel.size)⟩
          case measure => simp [intOf]; omega
        · obtain rfl : k = (t + 1).toNat := by omega
          go_wp2
          go_ret2
          exact HF.out _ hbel
    · have hfin : ∀ w', Below w.heap.size w w' → Two w (moV p s m t) (pE p s m) (.returned (.tuple #[.int .i64 (sumTo (term m (p - m) s) ((s : Int) + 1).toNat : Int), .int .i64 0])) w' := fun w' => by
        refine mo_ok hok ?_
        show _ = many p s m 0 t
        unfold many
        rw [show min t (s : Int) = (s : Int) by omega, span_same p s m _ _ (by omega)]
        unfold span
        rw [show (max (max (0 : Int) 0) ((s : Int) + 1)).toNat = ((s : Int) + 1).toNat by omega]
        show _ = _ - ((0 : Nat) : Int)
        omega
      have HF := Lib.hid hfin
      clear hfin hok
      have hTs : (s : Int) ≤ s := by omega
      go_enter Try.func17, Try.ntmps17
      go_wp2_with fail
      refine (bad_no p s m _ h1 h2 h3).mono ?_
      rintro e w1 ⟨rfl, rfl⟩
      go_wp2_with fail
      go_loopw [10, 11] (fun v i wr => ∃ k : Nat, k ≤ ((s : Int) + 1).toNat ∧ i = .int .i64 k ∧ v = .int .i64 (sumTo (term m (p - m) s) k : Int) ∧ Below w.heap.size w wr) (fun _ i _ => ((s : Int) + 1).toNat - (intOf i).toNat)
      case atStart => exact ⟨0, Nat.zero_le _, rfl, rfl, Below.refl _ _⟩
      case round =>
        obtain ⟨k, hk, rfl, rfl, hbel⟩ := hrel
        by_cases hlt : (k : Int) ≤ (s : Int)
        · have e2 := term_le m (p - m) s k (by omega)
          have e3 := HP2.out (k + 1) (by omega)
          have e5 := HCs.out
          have e6 : sumTo (term m (p - m) s) (k + 1) = sumTo (term m (p - m) s) k + term m (p - m) s k := rfl
          have E6 := Lib.hid e6
          have hks : k ≤ s := by omega
          have hcall := Lib.hid (fun W => exactly_any p s m k W h1 h2 h3 hks)
          generalize term m (p - m) s k = tt at e2 e6 E6 hcall
          generalize sumTo (term m (p - m) s) k = s1 at e6 E6
          have q2 : (s1 : Int) + tt ≤ 1152921504606846976 := by omega
          clear e2 e3 e5 e6
          go_wp2_with fail
          refine (hcall.out _).mono ?_
          rintro e w2 ⟨rfl, hb2⟩
          go_wp2
          go_roundw
          case rel => exact ⟨k + 1, by omega, by go_num, congrArg (Value.int .i64) (by have := E6.out; omega), hbel.trans (hb2.mono hbel.size)⟩
          case measure => simp [intOf]; omega
        · obtain rfl : k = ((s : Int) + 1).toNat := by omega
          go_wp2
          go_ret2
          exact HF.out _ hbel
  have HN := Lib.hid (fun w' => mo_no (w := w) (w' := w') (t := t) hok)
  go_enter Try.func17, Try.ntmps17
  go_wp2_with fail
  refine (bad_yes p s m _ hok).mono ?_
  rintro e w1 ⟨rfl, rfl⟩
  go_wp2
  go_ret2
  exact HN.out _ (Below.refl _ _)
end Go.Proofs.Ythgfajilpnjihaa
