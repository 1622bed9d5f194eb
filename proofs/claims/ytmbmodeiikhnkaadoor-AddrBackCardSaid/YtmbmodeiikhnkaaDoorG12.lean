/-
  What Parse reads; what is printed is read back. No walk.
-/
import Derived.Test.YtmbmodeiikhnkaaDoorG09
import Derived.Test.YtmbmodeiikhnkaaDoorG10
import Derived.Test.YtmbmodeiikhnkaaDoorG11
import Derived.Test.YtmbmodeiikhnkaaDoorG07
import Derived.Lib.Case
import Derived.Test.YtmbmodeiikhnkaaDoorG05
import Derived.Lib.CountLaws
namespace Go.Proofs.YtmbmodeiikhnkaaDoor
open Go.RowKit
theorem pgF_lt : ∀ (e : Bool) (ps : List (List UInt8)) (xs : List Nat), pgF e ps = some xs → ∀ x ∈ xs, x < 65536
  | e, [], xs, h => by cases h; simp
  | e, p :: r, xs, h => by
    unfold pgF at h
    by_cases c : (e && r.isEmpty && hasB p 46) = true
    · rw [if_pos c] at h
      cases e4 : p4N p with
      | none => rw [e4] at h; cases h
      | some n =>
        rw [e4] at h
        cases h
        intro x hx
        simp only [List.mem_cons, List.not_mem_nil, or_false] at hx
        omega
    · rw [if_neg c] at h
      cases e4 : grpN p with
      | none => rw [e4] at h; cases h
      | some n =>
        rw [e4] at h
        cases e5 : pgF e r with
        | none => rw [e5] at h; cases h
        | some ys =>
          rw [e5] at h
          cases h
          intro x hx
          rcases List.mem_cons.1 hx with rfl | hx
          · exact grpN_lt e4
          · exact pgF_lt e r ys e5 x hx
theorem pgN_lt {e : Bool} {l : List UInt8} {xs : List Nat} (h : pgN e l = some xs) : ∀ x ∈ xs, x < 65536 := by
  unfold pgN at h
  by_cases c : l = []
  · rw [if_pos c] at h; cases h; simp
  · rw [if_neg c] at h
    exact pgF_lt e _ xs h
theorem p6N_ok {l : List UInt8} {xs : List Nat} (h : p6N l = some xs) : xs.length = 8 ∧ ∀ x ∈ xs, x < 65536 := by
  unfold p6N at h
  by_cases c : (Lib.cut l [58, 58]).2.2 = true
  · rw [if_pos c] at h
    cases ea : pgN false (Lib.cut l [58, 58]).1 with
    | none => rw [ea] at h; cases h
    | some a =>
      rw [ea, Option.bind_some] at h
      cases eb : pgN true (Lib.cut l [58, 58]).2.1 with
      | none => rw [eb] at h; cases h
      | some b =>
        rw [eb, Option.bind_some] at h
        by_cases h8 : a.length + b.length < 8
        · rw [if_pos h8] at h
          cases h
          refine ⟨by simp; omega, fun x hx => ?_⟩
          rcases List.mem_append.1 hx with hx | hx
          · rcases List.mem_append.1 hx with hx | hx
            · exact pgN_lt ea x hx
            · rw [(List.mem_replicate.1 hx).2]; omega
          · exact pgN_lt eb x hx
        · rw [if_neg h8] at h; cases h
  · rw [if_neg c] at h
    cases ea : pgN true l with
    | none => rw [ea] at h; cases h
    | some a =>
      rw [ea, Option.bind_some] at h
      by_cases h8 : a.length = 8
      · rw [if_pos h8] at h
        cases h
        exact ⟨h8, pgN_lt ea⟩
      · rw [if_neg h8] at h; cases h
/-- Eight groups as an address. -/
def jn8 (xs : List Nat) : Bool × Int × Int := match xs with
  | [a, b, c, d, e, f, g, i] => (true, (jn a b c d : Int), (jn e f g i : Int))
  | _ => (false, 0, 0)
/-- What Parse reads. -/
def prsA (l : List UInt8) : Option (Bool × Int × Int) := if 45 < l.length then none else if hasB l 58 = true then (p6N l).map jn8 else (p4N l).map fun n => (false, 0, (n : Int))
def prsV (l : List UInt8) : AVal := match prsA l with
  | some a => .tuple [.agg [.val (.bool a.1), .val (.int .u64 a.2.1), .val (.int .u64 a.2.2)], .val (.int .i64 0)]
  | none => .tuple [.agg [.val (.bool false), .val (.int .u64 0), .val (.int .u64 0)], .val (.int .i64 2)]
theorem jn_lt {a b c d : Nat} (ha : a < 65536) (hb : b < 65536) (hc : c < 65536) (hd : d < 65536) : jn a b c d < 18446744073709551616 := by unfold jn; omega
/-- What is read is an address. -/
theorem prsA_ok {l : List UInt8} {v : Bool} {hi lo : Int} (h : prsA l = some (v, hi, lo)) : AOk v hi lo := by
  unfold prsA at h
  by_cases c : 45 < l.length
  · rw [if_pos c] at h; cases h
  · rw [if_neg c] at h
    by_cases c2 : hasB l 58 = true
    · rw [if_pos c2] at h
      cases e : p6N l with
      | none => rw [e] at h; cases h
      | some xs =>
        rw [e] at h
        obtain ⟨h8, hb⟩ := p6N_ok e
        obtain ⟨a, b, c, d, e', f, g, i, rfl⟩ := list8 h8
        simp only [Option.map_some, Option.some.injEq, jn8, Prod.mk.injEq] at h
        obtain ⟨rfl, rfl, rfl⟩ := h
        have q := fun x (hx : x ∈ [a, b, c, d, e', f, g, i]) => hb x hx
        have j1 := jn_lt (q a (by simp)) (q b (by simp)) (q c (by simp)) (q d (by simp))
        have j2 := jn_lt (q e' (by simp)) (q f (by simp)) (q g (by simp)) (q i (by simp))
        exact aok6 ⟨by omega, by omega⟩ ⟨by omega, by omega⟩
    · rw [if_neg c2] at h
      cases e : p4N l with
      | none => rw [e] at h; cases h
      | some n =>
        rw [e] at h
        have h' : some (false, (0 : Int), (n : Int)) = some (v, hi, lo) := h
        simp only [Option.some.injEq, Prod.mk.injEq] at h'
        obtain ⟨rfl, rfl, rfl⟩ := h'
        have := p4N_lt e
        exact aok4 (by omega) (by omega)
theorem jn_grps (x : Nat) (h : x < 18446744073709551616) : jn (x / 281474976710656 % 65536) (x / 4294967296 % 65536) (x / 65536 % 65536) (x % 65536) = x := by unfold jn; omega
/-- What is printed is read back. -/
theorem prsA_prA {v : Bool} {hi lo : Int} (ao : AOk v hi lo) : prsA (prA v hi lo) = some (v, hi, lo) := by
  obtain ⟨h0, h1, g0, g1, h4⟩ := ao
  obtain ⟨H, rfl⟩ := Int.eq_ofNat_of_zero_le h0
  obtain ⟨L, rfl⟩ := Int.eq_ofNat_of_zero_le g0
  cases v with
  | true =>
    have e : prA true (H : Int) (L : Int) = p6 (grps H L) := by unfold prA; rw [if_pos rfl, Int.toNat_natCast, Int.toNat_natCast]
    have h8 := grps_len H L
    have hb := grps_lt H L
    have l45 := p6_len45 h8 hb
    unfold prsA
    rw [e, if_neg (by omega), if_pos (hasB_yes (p6_colon h8)), p6N_p6 h8 hb]
    have j : jn8 (grps H L) = (true, (H : Int), (L : Int)) := by
      unfold jn8 grps
      dsimp only
      rw [jn_grps H (by omega), jn_grps L (by omega)]
    exact congrArg some j
  | false =>
    obtain ⟨hz, hl⟩ := h4 rfl
    have e : prA false (H : Int) (L : Int) = quad L := by unfold prA; rw [if_neg (by decide), Int.toNat_natCast]
    have l15 := quad_len (n := L)
    unfold prsA
    rw [e, if_neg (by omega), if_neg (by rw [hasB_no (quad_no L 58 (by decide) (by decide))]; decide), p4N_quad (by omega), hz]
    rfl
theorem prA_len {v : Bool} {hi lo : Int} (ao : AOk v hi lo) : (prA v hi lo).length ≤ 45 := by
  have h := prsA_prA ao
  unfold prsA at h
  by_cases c : 45 < (prA v hi lo).length
  · rw [if_pos c] at h; cases h
  · omega
theorem prA_no47 (v : Bool) (hi lo : Int) : (47 : UInt8) ∉ prA v hi lo := by
  unfold prA
  cases v with
  | true => rw [if_pos rfl]; exact p6_no47 _
  | false => rw [if_neg (by decide)]; exact quad_no _ 47 (by decide) (by decide)
end Go.Proofs.YtmbmodeiikhnkaaDoor
namespace Go.Proofs.YtmbmodeiikhnkaaDoor
open Go.RowKit
/-- A byte that strings.ToLower leaves as it is. -/
def lowC (x : UInt8) : Prop := x.toNat < 128 ∧ Lib.lowerB x = x
theorem lowC_dig {x : UInt8} (h : isDig x = true) : lowC x := by
  unfold isDig at h
  simp at h
  refine ⟨by omega, ?_⟩
  unfold Lib.lowerB Lib.isUpperB
  have : ¬ (65 ≤ x) := by
    intro c
    have := UInt8.le_iff_toNat_le.1 c
    have e : (65 : UInt8).toNat = 65 := rfl
    omega
  simp [this]
theorem lowC_hex {d : Nat} (h : d < 16) : lowC (hexDig d) := by
  have key : ∀ d : Fin 16, (hexDig d.val).toNat < 128 ∧ Lib.lowerB (hexDig d.val) = hexDig d.val := by decide +kernel
  exact key ⟨d, h⟩
theorem lowC_hexL (u : Nat) : ∀ x ∈ hexL u, lowC x := by
  induction u using Nat.strongRecOn with
  | ind u ih =>
    by_cases h : u < 16
    · rw [hexL_small h]
      intro x hx
      rw [List.mem_singleton.1 hx]
      exact lowC_hex h
    · rw [hexL_big h]
      intro x hx
      rcases List.mem_append.1 hx with hx | hx
      · exact ih (u / 16) (by omega) x hx
      · rw [List.mem_singleton.1 hx]
        exact lowC_hex (by omega)
theorem lowC_join (c : UInt8) (hc : lowC c) : ∀ ls : List (List UInt8), (∀ l ∈ ls, ∀ x ∈ l, lowC x) → ∀ x ∈ joinC c ls, lowC x
  | [], _, x, hx => by simp [joinC] at hx
  | [l], h, x, hx => h l (by simp) x hx
  | l :: m :: r, h, x, hx => by
    rw [joinC_cons c l (by simp)] at hx
    rcases List.mem_append.1 hx with hx | hx
    · exact h l (by simp) x hx
    · rcases List.mem_cons.1 hx with rfl | hx
      · exact hc
      · exact lowC_join c hc (m :: r) (fun y hy => h y (List.mem_cons_of_mem _ hy)) x hx
theorem lowC_58 : lowC 58 := ⟨by decide, by decide⟩
theorem lowC_46 : lowC 46 := ⟨by decide, by decide⟩
theorem lowC_hexJ (xs : List Nat) : ∀ x ∈ hexJ xs, lowC x := by
  rw [hexJ_joinC]
  refine lowC_join 58 lowC_58 _ fun l hl => ?_
  obtain ⟨u, -, rfl⟩ := List.mem_map.1 hl
  exact lowC_hexL u
theorem lowC_p6 (xs : List Nat) : ∀ x ∈ p6 xs, lowC x := by
  unfold p6
  by_cases h : (lrs xs 8).2 < 2
  · rw [if_pos h]; exact lowC_hexJ xs
  · rw [if_neg h]
    intro x hx
    rcases List.mem_append.1 hx with hx | hx
    · rcases List.mem_append.1 hx with hx | hx
      · exact lowC_hexJ _ x hx
      · simp only [List.mem_cons, List.not_mem_nil, or_false, or_self] at hx
        rw [hx]; exact lowC_58
    · exact lowC_hexJ _ x hx
theorem lowC_quad (n : Nat) : ∀ x ∈ quad n, lowC x := by
  rw [quad_join]
  refine lowC_join 46 lowC_46 _ fun l hl x hx => ?_
  simp only [List.mem_cons, List.not_mem_nil, or_false] at hl
  rcases hl with rfl | rfl | rfl | rfl <;> exact lowC_dig (decDigits_dig _ x hx)
theorem lowC_prA (v : Bool) (hi lo : Int) : ∀ x ∈ prA v hi lo, lowC x := by
  unfold prA
  cases v with
  | true => rw [if_pos rfl]; exact lowC_p6 _
  | false => rw [if_neg (by decide)]; exact lowC_quad _
theorem lower_prA (v : Bool) (hi lo : Int) : Lib.toLowerA (prA v hi lo) = prA v hi lo := by
  unfold Lib.toLowerA
  have := lowC_prA v hi lo
  generalize prA v hi lo = l at *
  exact (List.map_congr_left (g := id) fun x hx => (this x hx).2).trans (List.map_id l)
theorem hexJ_len9 : ∀ xs : List Nat, xs ≠ [] → (∀ x ∈ xs, x < 65536) → (hexJ xs).length + 1 ≤ 5 * xs.length
  | [], h, _ => absurd rfl h
  | [x], _, h => by
    have := hexL_len 3 x (h x (by simp))
    simp [hexJ, Lib.join_one]; omega
  | x :: y :: r, _, h => by
    have h1 := hexL_len 3 x (h x (by simp))
    have h2 := hexJ_len9 (y :: r) (by simp) (fun z hz => h z (List.mem_cons_of_mem _ hz))
    rw [hexJ_joinC] at h2 ⊢
    rw [List.map_cons, joinC_cons 58 (hexL x) (by simp)]
    simp only [List.length_append, List.length_cons] at h2 ⊢
    omega
theorem p6_len39 {xs : List Nat} (h8 : xs.length = 8) (hb : ∀ x ∈ xs, x < 65536) : (p6 xs).length ≤ 39 := by
  have bd := lrs_bd xs h8 8 (Nat.le_refl _)
  unfold p6
  by_cases h : (lrs xs 8).2 < 2
  · rw [if_pos h]
    have := hexJ_len9 xs (by intro e; rw [e] at h8; cases h8) hb
    omega
  · rw [if_neg h]
    have h1 := hexJ_len (xs.take (lrs xs 8).1) fun x hx => hb x (List.mem_of_mem_take hx)
    have h2 := hexJ_len (xs.drop ((lrs xs 8).1 + (lrs xs 8).2)) fun x hx => hb x (List.mem_of_mem_drop hx)
    rw [List.length_take] at h1
    rw [List.length_drop] at h2
    simp only [List.length_append, List.length_cons, List.length_nil]
    omega
theorem prA_len39 (v : Bool) (hi lo : Int) : (prA v hi lo).length ≤ 39 := by
  unfold prA
  cases v with
  | true => rw [if_pos rfl]; exact p6_len39 (grps_len _ _) (grps_lt _ _)
  | false =>
    rw [if_neg (by decide)]
    have := quad_len (n := lo.toNat)
    omega
/-- Different addresses have different texts. -/
theorem prA_inj {v v' : Bool} {hi lo hi' lo' : Int} (a : AOk v hi lo) (b : AOk v' hi' lo') (h : prA v hi lo = prA v' hi' lo') : v = v' ∧ hi = hi' ∧ lo = lo' := by
  have h1 := prsA_prA a
  rw [h, prsA_prA b] at h1
  simp only [Option.some.injEq, Prod.mk.injEq] at h1
  exact ⟨h1.1.symm, h1.2.1.symm, h1.2.2.symm⟩
end Go.Proofs.YtmbmodeiikhnkaaDoor
namespace Go.Proofs.YtmbmodeiikhnkaaDoor
open Go.RowKit Go.Sort
theorem tolower_spec (l : List UInt8) (hl : l.length ≤ 140737488355328) (ha : ∀ x ∈ l, x.toNat < 128) : Spec Tryd.prog 25 [.val (bstr l)] [] (.val (bstr (Lib.toLowerA l))) [] :=
  spec_belowV (timeless_val _) fun ψ prot w cargs hV hk hsz hargs => by
    obtain rfl := one_arg hsz hargs
    refine (Tryd.strings_ToLower_ascii ⟨l.toArray⟩ w hl (fun j b hb => ha b (List.mem_of_getElem? hb))).mono ?_
    rintro e w' ⟨rfl, hw⟩
    exact ⟨_, rfl, .val _, hw⟩
theorem four_vals {ψ : Ghost} {prot : Nat → Prop} {w : World} {cargs : Array Value} {x y z t : Value} (hsz : cargs.size = [AVal.val x, AVal.val y, AVal.val z, AVal.val t].length) (h : ∀ (i : Nat) (a : AVal) (v : Value), [AVal.val x, AVal.val y, AVal.val z, AVal.val t][i]? = some a → cargs[i]? = some v → VRel ψ prot w a v) : cargs = #[x, y, z, t] := by
  have hs : cargs.size = 4 := hsz
  have h0 := (h 0 (.val x) cargs[0] rfl (by simp [hs])).val_eq
  have h1 := (h 1 (.val y) cargs[1] rfl (by simp [hs])).val_eq
  have h2 := (h 2 (.val z) cargs[2] rfl (by simp [hs])).val_eq
  have h3 := (h 3 (.val t) cargs[3] rfl (by simp [hs])).val_eq
  apply Array.ext
  · simpa using hs
  · intro i q1 q2
    have : i = 0 ∨ i = 1 ∨ i = 2 ∨ i = 3 := by simp at q2; omega
    rcases this with rfl | rfl | rfl | rfl
    · simpa using h0
    · simpa using h1
    · simpa using h2
    · simpa using h3
theorem replace_spec (l old new : List UInt8) (n : Int) (hl : l.length ≤ 1000) (ho : 1 ≤ old.length) (hn : new.length ≤ 1000) : Spec Tryd.prog 42 [.val (bstr l), .val (bstr old), .val (bstr new), .val (.int .i64 n)] [] (.val (bstr (Lib.replace l old new n))) [] :=
  spec_belowV (timeless_val _) fun ψ prot w cargs hV hk hsz hargs => by
    obtain rfl := four_vals hsz hargs
    obtain ⟨m, hm⟩ := vars_maxlen hV
    have hc : Lib.countB ⟨l.toArray⟩ ⟨old.toArray⟩ ≤ l.length + 1 := Lib.count_le l old
    have hmul : Lib.countB ⟨l.toArray⟩ ⟨old.toArray⟩ * new.length ≤ 1001 * 1000 := Nat.mul_le_mul (by omega) hn
    have hs : (⟨l.toArray⟩ : ByteArray).size = l.length := rfl
    have hs2 : (⟨new.toArray⟩ : ByteArray).size = new.length := rfl
    refine (Tryd.strings_Replace ⟨l.toArray⟩ ⟨old.toArray⟩ ⟨new.toArray⟩ n m w (by rw [hs]; omega) hm ho (by rw [hs, hs2]; omega)).mono ?_
    rintro e w' ⟨rfl, hw⟩
    exact ⟨_, rfl, .val _, hw⟩
end Go.Proofs.YtmbmodeiikhnkaaDoor
