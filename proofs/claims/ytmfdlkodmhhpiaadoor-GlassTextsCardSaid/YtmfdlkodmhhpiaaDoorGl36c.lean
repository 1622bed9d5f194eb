/-
  The reference's Parse of explanations: what its loops compute, as functions of the bytes.
-/
import Derived.Test.YtmfdlkodmhhpiaaDoorGl36b
namespace Go.Proofs.YtmfdlkodmhhpiaaDoor
open Go.RowKit Go.Sort
/-- Digits are read, at most c of them, behind a number. -/
def dgo : Nat → Nat → List UInt8 → Nat × List UInt8
  | c + 1, n, x :: r => if isDig x = true then dgo c (n * 10 + (x.toNat - 48)) r else (n, x :: r)
  | 0, n, r => (n, r)
  | _ + 1, n, [] => (n, [])
theorem dgo_stop {c n : Nat} {r : List UInt8} (h : c = 0 ∨ ∀ x, r.head? = some x → isDig x = false) : dgo c n r = (n, r) := by
  cases c with
  | zero => cases r <;> rfl
  | succ c =>
    cases r with
    | nil => rfl
    | cons x r =>
      have hx := h.resolve_left (by omega) x rfl
      simp [dgo, hx]
theorem dgo_step {c n : Nat} {x : UInt8} {r : List UInt8} (h : isDig x = true) : dgo (c + 1) n (x :: r) = dgo c (n * 10 + (x.toNat - 48)) r := by simp [dgo, h]
theorem dgo_all : ∀ (ds : List UInt8) (c n : Nat) (r : List UInt8), (∀ x ∈ ds, isDig x = true) → ds.length ≤ c → (∀ x, r.head? = some x → isDig x = false) → dgo c n (ds ++ r) = (numOf n ds, r)
  | [], c, n, r, _, _, h => dgo_stop (.inr h)
  | x :: ds, c, n, r, hd, hc, h => by
    match c, hc with
    | c + 1, hc =>
      rw [List.cons_append, dgo_step (hd x List.mem_cons_self), numOf_cons]
      exact dgo_all ds c _ r (fun y hy => hd y (List.mem_cons_of_mem _ hy)) (by simpa using hc) h
/-- A number behind its sign, and what follows: nothing, or a blank and the rest. -/
def scanN (s : Int) (r : List UInt8) : Option (Int × Option (List UInt8)) :=
  if (dgo 14 0 r).2.length = r.length ∨ 1099511627776 < (dgo 14 0 r).1 then none else match (dgo 14 0 r).2 with
    | [] => some (s * (dgo 14 0 r).1, none)
    | x :: t => if x = 32 then some (s * (dgo 14 0 r).1, some t) else none
def scanW (r : List UInt8) : Option (Int × Option (List UInt8)) := if r.head? = some 45 then scanN (-1) r.tail else scanN 1 r
def goW : Nat → List UInt8 → List Int → Option (List Int)
  | 0, _, _ => none
  | f + 1, r, v => match scanW r with
    | none => none
    | some (x, none) => some (v ++ [x])
    | some (x, some t) => goW f t (v ++ [x])
theorem decDigits_len (k : Nat) : ∀ u, u < 10 ^ (k + 1) → (Lib.decDigits u).length ≤ k + 1 := by
  induction k with
  | zero => intro u hu; rw [Lib.decDigits_one (by simpa using hu)]; simp
  | succ k ih =>
    intro u hu
    by_cases h : u < 10
    · rw [Lib.decDigits_one h]; simp
    · have := ih (u / 10) (by rw [Nat.pow_succ] at hu; omega)
      rw [decDigits_step h, List.length_append, List.length_singleton]
      omega
def restW : Option (List UInt8) → List UInt8
  | none => []
  | some t => 32 :: t
theorem restW_head (o : Option (List UInt8)) : ∀ x, (restW o).head? = some x → isDig x = false := by
  intro x hx
  cases o with
  | none => cases hx
  | some t => simp [restW] at hx; subst hx; decide
theorem scanN_dec (s : Int) (u : Nat) (hu : u ≤ 1099511627776) (o : Option (List UInt8)) : scanN s (Lib.decDigits u ++ restW o) = some (s * u, o) := by
  have hd := dgo_all (Lib.decDigits u) 14 0 (restW o) (decDigits_dig u) (by exact Nat.le_succ_of_le (decDigits_len 12 u (Nat.lt_of_le_of_lt hu (by decide)))) (restW_head o)
  rw [numOf_digits] at hd
  have hne := decDigits_ne u
  have hpos : 0 < (Lib.decDigits u).length := List.length_pos_iff.2 hne
  unfold scanN
  rw [hd, if_neg (fun h => h.elim (fun h => by have h2 : (restW o).length = (Lib.decDigits u ++ restW o).length := h; rw [List.length_append] at h2; omega) (fun h => by have h2 : 1099511627776 < u := h; omega))]
  cases o with
  | none => rfl
  | some t => simp [restW]
theorem dec_head (u : Nat) (o : Option (List UInt8)) : (Lib.decDigits u ++ restW o).head? ≠ some 45 := by
  intro h
  cases hd : Lib.decDigits u with
  | nil => exact decDigits_ne u hd
  | cons x r =>
    rw [hd] at h
    simp at h
    have := decDigits_dig u x (by rw [hd]; exact List.mem_cons_self)
    rw [h] at this
    exact absurd this (by decide)
theorem scanW_itoa {n : Int} (hn : okN n) (o : Option (List UInt8)) : scanW (Lib.itoa n ++ restW o) = some (n, o) := by
  obtain ⟨h0, h1⟩ := hn
  unfold Lib.itoa
  split
  · unfold scanW
    simp only [List.cons_append, List.head?_cons, List.tail_cons, if_true]
    rw [scanN_dec (-1) n.natAbs (by omega) o]
    have : (-1 : Int) * (n.natAbs : Int) = n := by omega
    rw [this]
  · unfold scanW
    rw [if_neg (dec_head _ _), scanN_dec 1 n.toNat (by omega) o]
    have : (1 : Int) * (n.toNat : Int) = n := by omega
    rw [this]
theorem goW_join : ∀ (ns : List Int) (f : Nat) (v : List Int), ns ≠ [] → (∀ n ∈ ns, okN n) → ns.length ≤ f → goW f (joinC 32 (ns.map Lib.itoa)) v = some (v ++ ns)
  | [], _, _, h, _, _ => absurd rfl h
  | [n], f, v, _, hn, hf => by
    match f, hf with
    | f + 1, _ =>
      have h := scanW_itoa (hn n List.mem_cons_self) none
      simp only [restW, List.append_nil] at h
      simp only [List.map_cons, List.map_nil, joinC, goW, h]
  | n :: m :: ns, f, v, _, hn, hf => by
    match f, hf with
    | f + 1, hf =>
      have h := scanW_itoa (hn n List.mem_cons_self) (some (joinC 32 ((m :: ns).map Lib.itoa)))
      simp only [restW] at h
      have ih := goW_join (m :: ns) f (v ++ [n]) (by simp) (fun x hx => hn x (List.mem_cons_of_mem _ hx)) (by simpa using hf)
      simp only [List.map_cons] at h ih ⊢
      rw [joinC, goW, h]
      simp only
      rw [ih]
      simp
theorem goW_print {a b c d : Int} (ha : okN a) (hb : okN b) (hc : okN c) (hd : okN d) (f : Nat) (hf : 4 ≤ f) : goW f (printW a b c d) [] = some [a, b, c, d] :=
  goW_join [a, b, c, d] f [] (by simp) (fun n hn => by
    simp only [List.mem_cons, List.not_mem_nil, or_false] at hn
    rcases hn with rfl | rfl | rfl | rfl
    · exact ha
    · exact hb
    · exact hc
    · exact hd) hf
theorem print_long (a b c d : Int) : 3 ≤ (printW a b c d).length := by
  rw [printW_eq]; simp; omega
theorem parseG_none {l : List UInt8} (h : goW (l.length + 1) l [] = none) : parseG l = .tuple [whyV 0 0 0 0, .val (.int .i64 2)] :=
  parseG_no fun a b c d ha hb hc hd hs => by
    have hl : l = printW a b c d := by rw [← joinC_split 32 l, hs]; rfl
    rw [hl, goW_print ha hb hc hd _ (by have := print_long a b c d; omega)] at h
    cases h
theorem parseG_some {l : List UInt8} {v : List Int} (h : goW (l.length + 1) l [] = some v) (hv : ∀ a b c d, v = [a, b, c, d] → printW a b c d ≠ l) : parseG l = .tuple [whyV 0 0 0 0, .val (.int .i64 2)] :=
  parseG_no fun a b c d ha hb hc hd hs => by
    have hl : l = printW a b c d := by rw [← joinC_split 32 l, hs]; rfl
    rw [hl, goW_print ha hb hc hd _ (by have := print_long a b c d; omega)] at h
    injection h with h
    exact hv a b c d h.symm hl.symm
theorem print_short {a b c d : Int} (ha : okN a) (hb : okN b) (hc : okN c) (hd : okN d) : (printW a b c d).length ≤ 60 := by
  have h : ∀ n, okN n → (Lib.itoa n).length ≤ 14 := fun n hn => by
    obtain ⟨h0, h1⟩ := hn
    unfold Lib.itoa
    split
    · have := decDigits_len 12 n.natAbs (Nat.lt_of_le_of_lt (show n.natAbs ≤ 1099511627776 by omega) (by decide)); simp; omega
    · have := decDigits_len 12 n.toNat (Nat.lt_of_le_of_lt (show n.toNat ≤ 1099511627776 by omega) (by decide)); omega
  have h1 := h a ha
  have h2 := h b hb
  have h3 := h c hc
  have h4 := h d hd
  rw [printW_eq]; simp; omega
end Go.Proofs.YtmfdlkodmhhpiaaDoor
