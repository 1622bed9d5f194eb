/-
  What Parse reads; what is printed is read back. No walk.
-/
import Derived.Test.YtmbmodeiikhnkaaGreatDoorG12
import Derived.Test.YtmbmodeiikhnkaaGreatDoorG13
import Derived.Test.YtmbmodeiikhnkaaGreatDoorMkDeck
namespace Go.Proofs.YtmbmodeiikhnkaaGreatDoor
open Go.RowKit
theorem pgF_lt : ∀ (e : Bool) (ps : List (List UInt8)) (xs : List Nat), pgF e ps = some xs → ∀ x ∈ xs, x < 65536
  | e, [], xs, h => by cases h; simp
  | e, p :: r, xs, h => by
    unfold pgF at h
    by_cases c : (e && r.isEmpty && hasB p 46) = true
    · rw [if_pos c] at h
      cases e4 : p4N p with
      | none => rw [e4] at h; cases h
      | some n =>
        rw [e4] at h
        cases h
        intro x hx
        simp only [List.mem_cons, List.not_mem_nil, or_false] at hx
        omega
    · rw [if_neg c] at h
      cases e4 : grpN p with
      | none => rw [e4] at h; cases h
      | some n =>
        rw [e4] at h
        cases e5 : pgF e r with
        | none => rw [e5] at h; cases h
        | some ys =>
          rw [e5] at h
          cases h
          intro x hx
          rcases List.mem_cons.1 hx with rfl | hx
          · exact grpN_lt e4
          · exact pgF_lt e r ys e5 x hx
theorem pgN_lt {e : Bool} {l : List UInt8} {xs : List Nat} (h : pgN e l = some xs) : ∀ x ∈ xs, x < 65536 := by
  unfold pgN at h
  by_cases c : l = []
  · rw [if_pos c] at h; cases h; simp
  · rw [if_neg c] at h
    exact pgF_lt e _ xs h
theorem p6N_ok {l : List UInt8} {xs : List Nat} (h : p6N l = some xs) : xs.length = 8 ∧ ∀ x ∈ xs, x < 65536 := by
  unfold p6N at h
  by_cases c : (Lib.cut l [58, 58]).2.2 = true
  · rw [if_pos c] at h
    cases ea : pgN false (Lib.cut l [58, 58]).1 with
    | none => rw [ea] at h; cases h
    | some a =>
      rw [ea, Option.bind_some] at h
      cases eb : pgN true (Lib.cut l [58, 58]).2.1 with
      | none => rw [eb] at h; cases h
      | some b =>
        rw [eb, Option.bind_some] at h
        by_cases h8 : a.length + b.length < 8
        · rw [if_pos h8] at h
          cases h
          refine ⟨by simp; omega, fun x hx => ?_⟩
          rcases List.mem_append.1 hx with hx | hx
          · rcases List.mem_append.1 hx with hx | hx
            · exact pgN_lt ea x hx
            · rw [(List.mem_replicate.1 hx).2]; omega
          · exact pgN_lt eb x hx
        · rw [if_neg h8] at h; cases h
  · rw [if_neg c] at h
    cases ea : pgN true l with
    | none => rw [ea] at h; cases h
    | some a =>
      rw [ea, Option.bind_some] at h
      by_cases h8 : a.length = 8
      · rw [if_pos h8] at h
        cases h
        exact ⟨h8, pgN_lt ea⟩
      · rw [if_neg h8] at h; cases h
/-- Eight groups as an address. -/
def jn8 (xs : List Nat) : Bool × Int × Int := match xs with
  | [a, b, c, d, e, f, g, i] => (true, (jn a b c d : Int), (jn e f g i : Int))
  | _ => (false, 0, 0)
/-- What Parse reads. -/
def prsA (l : List UInt8) : Option (Bool × Int × Int) := if 45 < l.length then none else if hasB l 58 = true then (p6N l).map jn8 else (p4N l).map fun n => (false, 0, (n : Int))
def prsV (l : List UInt8) : AVal := match prsA l with
  | some a => .tuple [.agg [.val (.bool a.1), .val (.int .u64 a.2.1), .val (.int .u64 a.2.2)], .val (.int .i64 0)]
  | none => .tuple [.agg [.val (.bool false), .val (.int .u64 0), .val (.int .u64 0)], .val (.int .i64 2)]
theorem jn_lt {a b c d : Nat} (ha : a < 65536) (hb : b < 65536) (hc : c < 65536) (hd : d < 65536) : jn a b c d < 18446744073709551616 := by unfold jn; omega
/-- What is read is an address. -/
theorem prsA_ok {l : List UInt8} {v : Bool} {hi lo : Int} (h : prsA l = some (v, hi, lo)) : AOk v hi lo := by
  unfold prsA at h
  by_cases c : 45 < l.length
  · rw [if_pos c] at h; cases h
  · rw [if_neg c] at h
    by_cases c2 : hasB l 58 = true
    · rw [if_pos c2] at h
      cases e : p6N l with
      | none => rw [e] at h; cases h
      | some xs =>
        rw [e] at h
        obtain ⟨h8, hb⟩ := p6N_ok e
        obtain ⟨a, b, c, d, e', f, g, i, rfl⟩ := list8 h8
        simp only [Option.map_some, Option.some.injEq, jn8, Prod.mk.injEq] at h
        obtain ⟨rfl, rfl, rfl⟩ := h
        have q := fun x (hx : x ∈ [a, b, c, d, e', f, g, i]) => hb x hx
        have j1 := jn_lt (q a (by simp)) (q b (by simp)) (q c (by simp)) (q d (by simp))
        have j2 := jn_lt (q e' (by simp)) (q f (by simp)) (q g (by simp)) (q i (by simp))
        exact aok6 ⟨by omega, by omega⟩ ⟨by omega, by omega⟩
    · rw [if_neg c2] at h
      cases e : p4N l with
      | none => rw [e] at h; cases h
      | some n =>
        rw [e] at h
        have h' : some (false, (0 : Int), (n : Int)) = some (v, hi, lo) := h
        simp only [Option.some.injEq, Prod.mk.injEq] at h'
        obtain ⟨rfl, rfl, rfl⟩ := h'
        have := p4N_lt e
        exact aok4 (by omega) (by omega)
theorem jn_grps (x : Nat) (h : x < 18446744073709551616) : jn (x / 281474976710656 % 65536) (x / 4294967296 % 65536) (x / 65536 % 65536) (x % 65536) = x := by unfold jn; omega
/-- What is printed is read back. -/
theorem prsA_prA {v : Bool} {hi lo : Int} (ao : AOk v hi lo) : prsA (prA v hi lo) = some (v, hi, lo) := by
  obtain ⟨h0, h1, g0, g1, h4⟩ := ao
  obtain ⟨H, rfl⟩ := Int.eq_ofNat_of_zero_le h0
  obtain ⟨L, rfl⟩ := Int.eq_ofNat_of_zero_le g0
  cases v with
  | true =>
    have e : prA true (H : Int) (L : Int) = p6 (grps H L) := by unfold prA; rw [if_pos rfl, Int.toNat_natCast, Int.toNat_natCast]
    have h8 := grps_len H L
    have hb := grps_lt H L
    have l45 := p6_len45 h8 hb
    unfold prsA
    rw [e, if_neg (by omega), if_pos (hasB_yes (p6_colon h8)), p6N_p6 h8 hb]
    have j : jn8 (grps H L) = (true, (H : Int), (L : Int)) := by
      unfold jn8 grps
      dsimp only
      rw [jn_grps H (by omega), jn_grps L (by omega)]
    exact congrArg some j
  | false =>
    obtain ⟨hz, hl⟩ := h4 rfl
    have e : prA false (H : Int) (L : Int) = quad L := by unfold prA; rw [if_neg (by decide), Int.toNat_natCast]
    have l15 := quad_len (n := L)
    unfold prsA
    rw [e, if_neg (by omega), if_neg (by rw [hasB_no (quad_no L 58 (by decide) (by decide))]; decide), p4N_quad (by omega), hz]
    rfl
theorem prA_len {v : Bool} {hi lo : Int} (ao : AOk v hi lo) : (prA v hi lo).length ≤ 45 := by
  have h := prsA_prA ao
  unfold prsA at h
  by_cases c : 45 < (prA v hi lo).length
  · rw [if_pos c] at h; cases h
  · omega
theorem prA_no47 (v : Bool) (hi lo : Int) : (47 : UInt8) ∉ prA v hi lo := by
  unfold prA
  cases v with
  | true => rw [if_pos rfl]; exact p6_no47 _
  | false => rw [if_neg (by decide)]; exact quad_no _ 47 (by decide) (by decide)
end Go.Proofs.YtmbmodeiikhnkaaGreatDoor
namespace Go.Proofs.YtmbmodeiikhnkaaGreatDoor
open Go.RowKit
/-- The longest run as the reference finds it. -/
def rls (xs : List Nat) : Nat → Int × Nat
  | 0 => (-1, 1)
  | i + 1 => if zr (xs.drop i) > (rls xs i).2 then ((i : Int), zr (xs.drop i)) else rls xs i
theorem rls_lrs (xs : List Nat) : ∀ i, (lrs xs i).2 < 2 ∧ rls xs i = (-1, 1) ∨ 2 ≤ (lrs xs i).2 ∧ rls xs i = (((lrs xs i).1 : Int), (lrs xs i).2)
  | 0 => .inl ⟨by simp [lrs], rfl⟩
  | i + 1 => by
    unfold lrs rls
    rcases rls_lrs xs i with ⟨h, e⟩ | ⟨h, e⟩
    · rw [e]
      dsimp only
      by_cases c : zr (xs.drop i) > 1
      · rw [if_pos (by omega), if_pos c]
        exact .inr ⟨by dsimp only; omega, rfl⟩
      · rw [if_neg c]
        by_cases c2 : zr (xs.drop i) > (lrs xs i).2
        · rw [if_pos c2]; exact .inl ⟨by dsimp only; omega, rfl⟩
        · rw [if_neg c2]; exact .inl ⟨h, rfl⟩
    · rw [e]
      dsimp only
      by_cases c : zr (xs.drop i) > (lrs xs i).2
      · rw [if_pos c, if_pos c]
        exact .inr ⟨by dsimp only; omega, rfl⟩
      · rw [if_neg c, if_neg c]
        exact .inr ⟨h, rfl⟩
theorem rls_bd (xs : List Nat) (i : Nat) : 1 ≤ (rls xs i).2 ∧ -1 ≤ (rls xs i).1 := by
  rcases rls_lrs xs i with ⟨h, e⟩ | ⟨h, e⟩ <;> rw [e] <;> dsimp only <;> omega
/-- A group more. -/
def addG (s : List UInt8) (x : Nat) : List UInt8 := if (s == []) = true ∨ Lib.hasSuffix s [58] = true then s ++ hexL x else s ++ [58] ++ hexL x
theorem suf_iff (s : List UInt8) : Lib.hasSuffix s [58] = true ↔ ∃ t, s = t ++ [58] := by
  unfold Lib.hasSuffix
  rw [List.isSuffixOf_iff_suffix]
  constructor
  · rintro ⟨t, h⟩; exact ⟨t, h.symm⟩
  · rintro ⟨t, h⟩; exact ⟨t, h.symm⟩
theorem suf_snoc (t : List UInt8) (x : UInt8) : Lib.hasSuffix (t ++ [x]) [58] = true ↔ x = 58 := by
  rw [suf_iff]
  constructor
  · rintro ⟨u, h⟩
    have := congrArg List.getLast? h
    simpa using this
  · rintro rfl; exact ⟨t, rfl⟩
theorem hexL_snoc (u : Nat) : ∃ t x, hexL u = t ++ [x] ∧ x ≠ 58 := by
  have nx : ∀ d, d < 16 → hexDig d ≠ 58 := by
    have key : ∀ d : Fin 16, hexDig d.val ≠ 58 := by decide +kernel
    exact fun d h => key ⟨d, h⟩
  by_cases h : u < 16
  · exact ⟨[], hexDig u, by rw [hexL_small h]; rfl, nx u h⟩
  · exact ⟨hexL (u / 16), hexDig (u % 16), hexL_big h, nx _ (by omega)⟩
/-- Behind any beginning, a text of groups doesn't end with a colon. -/
theorem hexJ_end (p : List UInt8) : ∀ (xs : List Nat), xs ≠ [] → Lib.hasSuffix (p ++ hexJ xs) [58] = false
  | [], h => absurd rfl h
  | [x], _ => by
    obtain ⟨t, y, e, hy⟩ := hexL_snoc x
    have : hexJ [x] = hexL x := by rw [hexJ_joinC]; rfl
    rw [this, e, ← List.append_assoc]
    cases hb : Lib.hasSuffix (p ++ t ++ [y]) [58] with
    | false => rfl
    | true => exact absurd ((suf_snoc _ _).1 hb) hy
  | x :: y :: r, _ => by
    have ih := hexJ_end (p ++ hexL x ++ [58]) (y :: r) (by simp)
    have e : hexJ (x :: y :: r) = hexL x ++ [58] ++ hexJ (y :: r) := by
      rw [hexJ_joinC, hexJ_joinC, List.map_cons, joinC_cons 58 (hexL x) (by simp)]
      simp
    rw [e, ← List.append_assoc, ← List.append_assoc]
    exact ih
theorem hexJ_snoc : ∀ (xs : List Nat) (x : Nat), xs ≠ [] → hexJ (xs ++ [x]) = hexJ xs ++ [58] ++ hexL x
  | [], _, h => absurd rfl h
  | [a], x, _ => by
    rw [hexJ_joinC, hexJ_joinC]
    simp [joinC]
  | a :: b :: r, x, _ => by
    have ih := hexJ_snoc (b :: r) x (by simp)
    have e : ∀ ys : List Nat, ys ≠ [] → hexJ (a :: ys) = hexL a ++ [58] ++ hexJ ys := fun ys hy => by
      rw [hexJ_joinC, hexJ_joinC, List.map_cons, joinC_cons 58 (hexL a) (by simpa using hy)]
      simp
    rw [List.cons_append, e _ (by simp), ih, e _ (by simp)]
    simp
/-- A group is put behind a text of groups that follows an empty beginning or two colons. -/
theorem addG_step (p : List UInt8) (hp : p = [] ∨ Lib.hasSuffix p [58] = true) (xs : List Nat) (x : Nat) : addG (p ++ hexJ xs) x = p ++ hexJ (xs ++ [x]) := by
  unfold addG
  by_cases h : xs = []
  · subst h
    have e0 : hexJ [] = [] := by rw [hexJ_joinC]; rfl
    have e1 : hexJ ([] ++ [x]) = hexL x := by rw [hexJ_joinC]; rfl
    rw [e0, e1, List.append_nil]
    rw [if_pos]
    rcases hp with rfl | hp
    · exact .inl rfl
    · exact .inr hp
  · have e1 := hexJ_end p xs h
    have e2 : (p ++ hexJ xs == []) = false := by
      cases xs with
      | nil => exact absurd rfl h
      | cons a r =>
        have := hexJ_ne a r
        cases hh : (p ++ hexJ (a :: r) == []) with
        | false => rfl
        | true =>
          have := List.append_eq_nil_iff.1 (beq_iff_eq.1 hh)
          exact absurd this.2 (hexJ_ne a r)
    rw [if_neg (by rw [e1, e2]; simp), hexJ_snoc xs x h]
    simp
/-- The text after some rounds: F the run's place (8: none), Z its length. -/
def pst (xs : List Nat) (F Z i : Nat) : List UInt8 := if i ≤ F then hexJ (xs.take i) else hexJ (xs.take F) ++ [58, 58] ++ hexJ ((xs.drop (F + Z)).take (i - F - Z))
theorem pst_zero (xs : List Nat) (F Z : Nat) : pst xs F Z 0 = [] := by
  unfold pst
  rw [if_pos (Nat.zero_le _), List.take_zero, hexJ_joinC]
  rfl
theorem pst_run (xs : List Nat) (F Z : Nat) (hZ : 1 ≤ Z) : pst xs F Z F ++ [58, 58] = pst xs F Z (F + Z) := by
  unfold pst
  rw [if_pos (Nat.le_refl _), if_neg (by omega), show F + Z - F - Z = 0 by omega, List.take_zero]
  have e0 : hexJ [] = [] := by rw [hexJ_joinC]; rfl
  rw [e0, List.append_nil]
theorem take_snocN {xs : List Nat} {i x : Nat} (h : xs[i]? = some x) : xs.take (i + 1) = xs.take i ++ [x] := by
  rw [List.take_add_one, h]
  rfl
theorem pst_step (xs : List Nat) (F Z i x : Nat) (h : xs[i]? = some x) (hi : i < F ∨ F + Z ≤ i ∧ F < i) : addG (pst xs F Z i) x = pst xs F Z (i + 1) := by
  unfold pst
  by_cases c : i < F
  · rw [if_pos (by omega), if_pos (by omega), take_snocN h]
    have := addG_step [] (.inl rfl) (xs.take i) x
    simpa using this
  · rw [if_neg (by omega), if_neg (by omega)]
    have hx : (xs.drop (F + Z))[i - F - Z]? = some x := by rw [List.getElem?_drop, show F + Z + (i - F - Z) = i by omega, h]
    rw [show i + 1 - F - Z = i - F - Z + 1 by omega, take_snocN hx]
    refine addG_step _ (.inr ?_) _ _
    rw [show hexJ (xs.take F) ++ [58, 58] = hexJ (xs.take F) ++ [58] ++ [58] by simp]
    exact (suf_snoc _ _).2 rfl
/-- All of it. -/
theorem pst_p6 {xs : List Nat} (h8 : xs.length = 8) : (lrs xs 8).2 < 2 ∧ p6 xs = pst xs 8 1 8 ∨ 2 ≤ (lrs xs 8).2 ∧ (lrs xs 8).1 + (lrs xs 8).2 ≤ 8 ∧ p6 xs = pst xs (lrs xs 8).1 (lrs xs 8).2 8 := by
  have bd := lrs_bd xs h8 8 (Nat.le_refl _)
  unfold p6
  by_cases h : (lrs xs 8).2 < 2
  · refine .inl ⟨h, ?_⟩
    rw [if_pos h]
    unfold pst
    rw [if_pos (Nat.le_refl _), List.take_of_length_le (by omega)]
  · refine .inr ⟨by omega, by omega, ?_⟩
    rw [if_neg h]
    unfold pst
    have e : (xs.drop ((lrs xs 8).1 + (lrs xs 8).2)).take (8 - (lrs xs 8).1 - (lrs xs 8).2) = xs.drop ((lrs xs 8).1 + (lrs xs 8).2) := List.take_of_length_le (by rw [List.length_drop]; omega)
    rw [if_neg (by omega), e]
end Go.Proofs.YtmbmodeiikhnkaaGreatDoor
