/-
  Layer 1: where two colons stand in the text of an address. No walk.
-/
import Derived.Test.YtboddbheljenhaaGreatDoorG14
import Derived.Test.YtboddbheljenhaaGreatDoorG07
import Derived.Test.YtboddbheljenhaaGreatDoorG13
namespace Go.Proofs.YtboddbheljenhaaGreatDoor
open Go.RowKit
def D2 (l : List UInt8) (i : Nat) : Prop := l[i]? = some 58 ∧ l[i + 1]? = some 58
theorem occ2 (s : List UInt8) (i : Nat) : Lib.occAt s [58, 58] i = true ↔ D2 s i := by
  unfold Lib.occAt D2
  have e0 : s[i]? = (s.drop i)[0]? := by rw [List.getElem?_drop, Nat.add_zero]
  have e1 : s[i + 1]? = (s.drop i)[1]? := by rw [List.getElem?_drop]
  rw [e0, e1]
  generalize s.drop i = t
  match t with
  | [] => simp [List.isPrefixOf]
  | [a] => simp [List.isPrefixOf]
  | a :: b :: r =>
    constructor
    · intro h
      simp [List.isPrefixOf] at h
      obtain ⟨rfl, rfl⟩ := h
      exact ⟨rfl, rfl⟩
    · rintro ⟨h1, h2⟩
      have h1' : a = 58 := by simpa using h1
      have h2' : b = 58 := by simpa using h2
      subst h1'
      subst h2'
      rfl
structure NJ (l : List UInt8) : Prop where
  no : ∀ i, ¬ D2 l i
  fst : l[0]? ≠ some 58
  lst : ∀ i, i + 1 = l.length → l[i]? ≠ some 58
theorem nj_nil : NJ [] := ⟨fun i h => by simp [D2] at h, by simp, fun i h => by simp at h⟩
theorem not_mem_get {w : List UInt8} (h : (58 : UInt8) ∉ w) (i : Nat) : w[i]? ≠ some 58 := fun e => h (List.mem_of_getElem? e)
theorem nj_word {w : List UInt8} (h : (58 : UInt8) ∉ w) : NJ w := ⟨fun i d => not_mem_get h i d.1, not_mem_get h 0, fun i _ => not_mem_get h i⟩
theorem nj_cons {w t : List UInt8} (hw : w ≠ []) (h : (58 : UInt8) ∉ w) (ht : NJ t) (hne : t ≠ []) : NJ (w ++ 58 :: t) := by
  have hl : 0 < w.length := List.length_pos_iff.2 hw
  have htl : 0 < t.length := List.length_pos_iff.2 hne
  refine ⟨fun i d => ?_, ?_, fun i hi => ?_⟩
  · obtain ⟨d1, d2⟩ := d
    by_cases c : i < w.length
    · rw [List.getElem?_append_left c] at d1
      exact not_mem_get h i d1
    · obtain ⟨j, rfl⟩ : ∃ j, i = w.length + j := ⟨i - w.length, by omega⟩
      rw [List.getElem?_append_right (by omega), show w.length + j - w.length = j by omega] at d1
      rw [List.getElem?_append_right (by omega), show w.length + j + 1 - w.length = j + 1 by omega, List.getElem?_cons_succ] at d2
      cases j with
      | zero => exact ht.fst d2
      | succ j =>
        rw [List.getElem?_cons_succ] at d1
        exact ht.no j ⟨d1, d2⟩
  · rw [List.getElem?_append_left hl]
    exact not_mem_get h 0
  · rw [List.length_append, List.length_cons] at hi
    obtain ⟨j, hj⟩ : ∃ j, i = w.length + (j + 1) := ⟨i - w.length - 1, by omega⟩
    subst hj
    rw [List.getElem?_append_right (by omega), show w.length + (j + 1) - w.length = j + 1 by omega, List.getElem?_cons_succ]
    exact ht.lst j (by omega)
theorem hexDig_ne (d : Nat) (h : d < 16) : hexDig d ≠ 58 := by
  have : d = 0 ∨ d = 1 ∨ d = 2 ∨ d = 3 ∨ d = 4 ∨ d = 5 ∨ d = 6 ∨ d = 7 ∨ d = 8 ∨ d = 9 ∨ d = 10 ∨ d = 11 ∨ d = 12 ∨ d = 13 ∨ d = 14 ∨ d = 15 := by omega
  rcases this with rfl | rfl | rfl | rfl | rfl | rfl | rfl | rfl | rfl | rfl | rfl | rfl | rfl | rfl | rfl | rfl <;> decide
theorem hexL_no (u : Nat) : (58 : UInt8) ∉ hexL u := fun h => by
  obtain ⟨d, hd, e⟩ := hexL_bytes u 58 h
  exact hexDig_ne d hd e.symm
theorem hexJ_joinC (xs : List Nat) : hexJ xs = joinC 58 (xs.map hexL) := join_one 58 _
theorem hexJ_ne (x : Nat) (xs : List Nat) : hexJ (x :: xs) ≠ [] := by
  rw [hexJ_joinC]
  cases xs with
  | nil => simpa [joinC] using hexL_ne x
  | cons y r => simp [joinC]
theorem nj_hex : ∀ xs : List Nat, NJ (hexJ xs)
  | [] => nj_nil
  | [x] => by
    rw [hexJ_joinC]
    exact nj_word (hexL_no x)
  | x :: y :: r => by
    have ih := nj_hex (y :: r)
    have hn := hexJ_ne y r
    rw [hexJ_joinC] at ih hn ⊢
    rw [List.map_cons, joinC_cons 58 (hexL x) (by simp)]
    exact nj_cons (hexL_ne x) (hexL_no x) ih hn
theorem d2_mid {a b : List UInt8} (ha : NJ a) (hb : NJ b) (i : Nat) : D2 (a ++ 58 :: 58 :: b) i ↔ i = a.length := by
  unfold D2
  constructor
  · rintro ⟨d1, d2⟩
    by_cases c : i < a.length
    · rw [List.getElem?_append_left c] at d1
      by_cases c2 : i + 1 < a.length
      · rw [List.getElem?_append_left c2] at d2
        exact absurd ⟨d1, d2⟩ (ha.no i)
      · exact absurd d1 (ha.lst i (by omega))
    · obtain ⟨j, rfl⟩ : ∃ j, i = a.length + j := ⟨i - a.length, by omega⟩
      rw [List.getElem?_append_right (by omega), show a.length + j - a.length = j by omega] at d1
      rw [List.getElem?_append_right (by omega), show a.length + j + 1 - a.length = j + 1 by omega, List.getElem?_cons_succ] at d2
      match j, d1, d2 with
      | 0, _, _ => rfl
      | 1, _, d2 => exact absurd d2 hb.fst
      | j + 2, d1, d2 =>
        rw [List.getElem?_cons_succ, List.getElem?_cons_succ] at d1
        rw [List.getElem?_cons_succ] at d2
        exact absurd ⟨d1, d2⟩ (hb.no j)
  · rintro rfl
    constructor
    · rw [List.getElem?_append_right (Nat.le_refl _), Nat.sub_self]; rfl
    · rw [List.getElem?_append_right (by omega), show a.length + 1 - a.length = 1 by omega]; rfl
theorem bool_not_true {b : Bool} (h : ¬ b = true) : b = false := by cases b <;> simp_all
theorem idx_none {s : List UInt8} (h : ∀ i, ¬ D2 s i) : Lib.index s [58, 58] = -1 := Lib.index_none fun j _ => bool_not_true fun e => h j ((occ2 s j).1 e)
theorem cnt2_none {s : List UInt8} (h : NJ s) : Lib.count s [58, 58] = 0 := Lib.count_miss (idx_none h.no)
theorem idx_mid {a b : List UInt8} (ha : NJ a) (hb : NJ b) : Lib.index (a ++ 58 :: 58 :: b) [58, 58] = (a.length : Int) :=
  Lib.index_first (by simp) ((occ2 _ _).2 ((d2_mid ha hb _).2 rfl)) fun j hj => bool_not_true fun e => by
    have := (d2_mid ha hb j).1 ((occ2 _ _).1 e)
    omega
def cntW (ws : List (List UInt8)) : Nat := (ws.filter fun w => decide (w ≠ [])).length
theorem cntW_append (a b : List (List UInt8)) : cntW (a ++ b) = cntW a + cntW b := by simp [cntW]
end Go.Proofs.YtboddbheljenhaaGreatDoor
namespace Go.Proofs.YtboddbheljenhaaGreatDoor
open Go.RowKit Go.Lib
theorem hasB_no : ∀ {l : List UInt8} {c : UInt8}, c ∉ l → hasB l c = false := fun {l c} h => by
  unfold hasB
  rw [decide_eq_false]
  intro h0
  obtain ⟨o, ho⟩ := Int.eq_ofNat_of_zero_le h0
  exact h (List.mem_of_getElem? (Lib.indexByte_some ho).1)
theorem hasB_yes {l : List UInt8} {c : UInt8} (h : c ∈ l) : hasB l c = true := by
  unfold hasB
  rw [decide_eq_true_iff]
  rcases Int.lt_or_le (Lib.indexByte l c) 0 with h0 | h0
  · exfalso
    have h1 := Lib.indexByte_ge l c
    obtain ⟨k, hk⟩ := List.mem_iff_getElem?.1 h
    exact Lib.indexByte_none (by omega) k hk
  · exact h0
theorem octN_dig {n : Nat} (h : n < 256) : octN (Lib.decDigits n) = some n := octN_some.2 ⟨h, rfl⟩
theorem dig_no (n : Nat) (c : UInt8) (h2 : isDig c = false) : c ∉ Lib.decDigits n := fun h => by
  have := decDigits_dig n c h
  rw [h2] at this
  cases this
theorem quad_join (n : Nat) : quad n = joinC 46 [Lib.decDigits (n / 16777216 % 256), Lib.decDigits (n / 65536 % 256), Lib.decDigits (n / 256 % 256), Lib.decDigits (n % 256)] := by
  unfold quad
  rw [join_one, itoa_nonneg, itoa_nonneg, itoa_nonneg, itoa_nonneg]
theorem split_quad (n : Nat) : splitC 46 (quad n) = [Lib.decDigits (n / 16777216 % 256), Lib.decDigits (n / 65536 % 256), Lib.decDigits (n / 256 % 256), Lib.decDigits (n % 256)] := by
  rw [quad_join]
  refine splitC_join 46 (by simp) fun w hw => ?_
  simp only [List.mem_cons, List.not_mem_nil, or_false] at hw
  rcases hw with rfl | rfl | rfl | rfl <;> exact dig_no _ 46 (by decide)
theorem p4N_quad {n : Nat} (h : n < 4294967296) : p4N (quad n) = some n := by
  unfold p4N
  rw [split_quad]
  simp only [List.length_cons, List.length_nil, if_true, octF]
  rw [octN_dig (by omega), octN_dig (by omega), octN_dig (by omega), octN_dig (by omega)]
  simp only [Option.bind_some]
  congr 1
  omega
theorem quad_no (n : Nat) (c : UInt8) (h1 : c ≠ 46) (h2 : isDig c = false) : c ∉ quad n := by
  rw [quad_join]
  simp only [joinC]
  intro h
  simp only [List.mem_append, List.mem_cons, List.mem_append] at h
  have d := fun k => dig_no k c h2
  rcases h with h | h | h | h | h | h | h
  · exact d _ h
  · exact h1 h
  · exact d _ h
  · exact h1 h
  · exact d _ h
  · exact h1 h
  · exact d _ h
theorem hexDig_ne46 (d : Nat) (h : d < 16) (c : UInt8) (hc : c = 46 ∨ c = 47) : hexDig d ≠ c := by
  have : d = 0 ∨ d = 1 ∨ d = 2 ∨ d = 3 ∨ d = 4 ∨ d = 5 ∨ d = 6 ∨ d = 7 ∨ d = 8 ∨ d = 9 ∨ d = 10 ∨ d = 11 ∨ d = 12 ∨ d = 13 ∨ d = 14 ∨ d = 15 := by omega
  rcases hc with rfl | rfl <;> rcases this with rfl | rfl | rfl | rfl | rfl | rfl | rfl | rfl | rfl | rfl | rfl | rfl | rfl | rfl | rfl | rfl <;> decide
theorem hexL_no46 (u : Nat) (c : UInt8) (hc : c = 46 ∨ c = 47) : c ∉ hexL u := fun h => by
  obtain ⟨d, hd, e⟩ := hexL_bytes u c h
  exact hexDig_ne46 d hd c hc e.symm
theorem grpN_hex {x : Nat} (h : x < 65536) : grpN (hexL x) = some x := by
  unfold grpN hexP
  rw [if_pos (hexL_len 3 x h), if_neg (hexL_ne x), hexN_hexL]
theorem pgF_hex (e : Bool) : ∀ xs : List Nat, (∀ x ∈ xs, x < 65536) → pgF e (xs.map hexL) = some xs
  | [], _ => rfl
  | x :: r, h => by
    rw [List.map_cons]
    unfold pgF
    rw [hasB_no (hexL_no46 x 46 (.inl rfl)), Bool.and_false, if_neg (by decide), grpN_hex (h x List.mem_cons_self), Option.bind_some, pgF_hex e r fun y hy => h y (List.mem_cons_of_mem _ hy)]
    rfl
theorem pgN_hex (e : Bool) (xs : List Nat) (h : ∀ x ∈ xs, x < 65536) : pgN e (hexJ xs) = some xs := by
  unfold pgN
  cases xs with
  | nil => rfl
  | cons x r =>
    rw [if_neg (hexJ_ne x r), hexJ_joinC, splitC_join 58 (by simp) (fun w hw => by obtain ⟨u, _, rfl⟩ := List.mem_map.1 hw; exact hexL_no u)]
    exact pgF_hex e _ h
theorem zr_take : ∀ xs : List Nat, xs.take (zr xs) = List.replicate (zr xs) 0
  | [] => rfl
  | x :: xs => by
    unfold zr
    by_cases c : x = 0
    · rw [if_pos c, List.take_succ_cons, zr_take xs, c]; rfl
    · rw [if_neg c]; rfl
theorem lrs_take (xs : List Nat) : ∀ i, (xs.drop (lrs xs i).1).take (lrs xs i).2 = List.replicate (lrs xs i).2 0
  | 0 => rfl
  | i + 1 => by
    unfold lrs
    by_cases c : zr (xs.drop i) > (lrs xs i).2
    · rw [if_pos c]; exact zr_take _
    · rw [if_neg c]; exact lrs_take xs i
theorem p6N_p6 {xs : List Nat} (h8 : xs.length = 8) (hb : ∀ x ∈ xs, x < 65536) : p6N (p6 xs) = some xs := by
  have bd := lrs_bd xs h8 8 (Nat.le_refl _)
  unfold p6N p6
  by_cases h : (lrs xs 8).2 < 2
  · rw [if_pos h]
    have hc : Lib.cut (hexJ xs) [58, 58] = (hexJ xs, [], false) := by
      unfold Lib.cut
      rw [idx_none (nj_hex xs).no]
      rfl
    rw [hc]
    simp only [Bool.false_eq_true, if_false]
    rw [pgN_hex true xs hb, Option.bind_some, if_pos h8]
  · rw [if_neg h]
    have na := nj_hex (xs.take (lrs xs 8).1)
    have nb := nj_hex (xs.drop ((lrs xs 8).1 + (lrs xs 8).2))
    have hta : (xs.take (lrs xs 8).1).length = (lrs xs 8).1 := by rw [List.length_take]; omega
    have htb : (xs.drop ((lrs xs 8).1 + (lrs xs 8).2)).length = 8 - ((lrs xs 8).1 + (lrs xs 8).2) := by rw [List.length_drop, h8]
    have hba : ∀ x ∈ xs.take (lrs xs 8).1, x < 65536 := fun x hx => hb x (List.mem_of_mem_take hx)
    have hbb : ∀ x ∈ xs.drop ((lrs xs 8).1 + (lrs xs 8).2), x < 65536 := fun x hx => hb x (List.mem_of_mem_drop hx)
    have hrun := lrs_take xs 8
    have hsp : xs = xs.take (lrs xs 8).1 ++ ((xs.drop (lrs xs 8).1).take (lrs xs 8).2 ++ xs.drop ((lrs xs 8).1 + (lrs xs 8).2)) := by
      rw [← List.drop_drop, List.take_append_drop, List.take_append_drop]
    rw [hrun] at hsp
    have hc : Lib.cut (hexJ (xs.take (lrs xs 8).1) ++ [58, 58] ++ hexJ (xs.drop ((lrs xs 8).1 + (lrs xs 8).2))) [58, 58] = (hexJ (xs.take (lrs xs 8).1), hexJ (xs.drop ((lrs xs 8).1 + (lrs xs 8).2)), true) := by
      rw [List.append_assoc]
      have hi := idx_mid na nb
      unfold Lib.cut
      rw [show ([58, 58] ++ hexJ (xs.drop ((lrs xs 8).1 + (lrs xs 8).2)) : List UInt8) = 58 :: 58 :: hexJ (xs.drop ((lrs xs 8).1 + (lrs xs 8).2)) from rfl, hi, if_pos (by omega), Int.toNat_natCast]
      simp
    rw [hc]
    simp only [if_true]
    rw [pgN_hex false _ hba, Option.bind_some, pgN_hex true _ hbb, Option.bind_some, if_pos (by omega), hta, htb]
    rw [show 8 - (lrs xs 8).1 - (8 - ((lrs xs 8).1 + (lrs xs 8).2)) = (lrs xs 8).2 by omega, List.append_assoc, ← hsp]
theorem p6_colon {xs : List Nat} (h8 : xs.length = 8) : (58 : UInt8) ∈ p6 xs := by
  unfold p6
  by_cases h : (lrs xs 8).2 < 2
  · rw [if_pos h]
    match xs, h8 with
    | x :: y :: r, _ =>
      rw [hexJ_joinC, List.map_cons, joinC_cons 58 (hexL x) (by simp)]
      simp
  · rw [if_neg h]
    simp
theorem p6_len45 {xs : List Nat} (h8 : xs.length = 8) (hb : ∀ x ∈ xs, x < 65536) : (p6 xs).length ≤ 45 := by
  have bd := lrs_bd xs h8 8 (Nat.le_refl _)
  unfold p6
  by_cases h : (lrs xs 8).2 < 2
  · rw [if_pos h]
    have := hexJ_len xs hb
    omega
  · rw [if_neg h]
    have h1 := hexJ_len (xs.take (lrs xs 8).1) fun x hx => hb x (List.mem_of_mem_take hx)
    have h2 := hexJ_len (xs.drop ((lrs xs 8).1 + (lrs xs 8).2)) fun x hx => hb x (List.mem_of_mem_drop hx)
    rw [List.length_take] at h1
    rw [List.length_drop] at h2
    simp only [List.length_append, List.length_cons, List.length_nil]
    omega
theorem quad_len {n : Nat} : (quad n).length ≤ 15 := by
  have d : ∀ k : Nat, k < 256 → (Lib.decDigits k).length ≤ 3 := by
    have : ∀ k : Fin 256, (Lib.decDigits k.val).length ≤ 3 := by decide +kernel
    exact fun k hk => this ⟨k, hk⟩
  have d1 := d (n / 16777216 % 256) (by omega)
  have d2 := d (n / 65536 % 256) (by omega)
  have d3 := d (n / 256 % 256) (by omega)
  have d4 := d (n % 256) (by omega)
  rw [quad_join]
  simp only [joinC, List.length_append, List.length_cons]
  omega
end Go.Proofs.YtboddbheljenhaaGreatDoor
namespace Go.Proofs.YtboddbheljenhaaGreatDoor
open Go.RowKit
theorem hexN_mem : ∀ (l : List UInt8) (acc n : Nat), hexN acc l = some n → ∀ x ∈ l, (hexV x).isSome = true
  | [], _, _, _ => by simp
  | c :: r, acc, n, h => by
    unfold hexN at h
    cases e : hexV c with
    | none => rw [e] at h; cases h
    | some d =>
      rw [e] at h
      intro x hx
      rcases List.mem_cons.1 hx with rfl | hx
      · rw [e]; rfl
      · exact hexN_mem r _ n h x hx
theorem grpN_dot {p : List UInt8} {n : Nat} (h : grpN p = some n) : (46 : UInt8) ∉ p := fun hm => by
  unfold grpN hexP at h
  by_cases c : p.length ≤ 4
  · rw [if_pos c] at h
    by_cases c2 : p = []
    · rw [if_pos c2] at h; cases h
    · rw [if_neg c2] at h
      have := hexN_mem p 0 n h 46 hm
      revert this
      decide
  · rw [if_neg c] at h; cases h
theorem pgF_dot : ∀ (ps : List (List UInt8)) (xs : List Nat), pgF false ps = some xs → ∀ p ∈ ps, (46 : UInt8) ∉ p
  | [], _, _ => by simp
  | q :: r, xs, h => by
    unfold pgF at h
    rw [Bool.false_and, Bool.false_and, if_neg (by decide)] at h
    cases e : grpN q with
    | none => rw [e] at h; cases h
    | some n =>
      rw [e, Option.bind_some] at h
      cases e5 : pgF false r with
      | none => rw [e5] at h; cases h
      | some ys =>
        intro p hp
        rcases List.mem_cons.1 hp with rfl | hp
        · exact grpN_dot e
        · exact pgF_dot r ys e5 p hp
theorem mem_joinC {c x : UInt8} (hx : x ≠ c) : ∀ {ws : List (List UInt8)}, x ∈ joinC c ws → ∃ w ∈ ws, x ∈ w
  | [], h => by simp [joinC] at h
  | [w], h => ⟨w, by simp, by simpa [joinC] using h⟩
  | w :: v :: ws, h => by
    rw [joinC_cons c w (by simp)] at h
    rcases List.mem_append.1 h with h | h
    · exact ⟨w, by simp, h⟩
    · rcases List.mem_cons.1 h with h | h
      · exact absurd h hx
      · obtain ⟨u, hu, hxu⟩ := mem_joinC hx h
        exact ⟨u, List.mem_cons_of_mem _ hu, hxu⟩
theorem mem_part {c : UInt8} {l w : List UInt8} (hw : w ∈ splitC c l) {x : UInt8} (hx : x ∈ w) : x ∈ l := by
  rw [← joinC_split c l]
  revert hw
  generalize splitC c l = ps
  intro hw
  induction ps with
  | nil => cases hw
  | cons v ws ih =>
    cases ws with
    | nil =>
      simp at hw
      subst hw
      simpa [joinC] using hx
    | cons u us =>
      rw [joinC_cons c v (by simp)]
      rcases List.mem_cons.1 hw with rfl | hw
      · exact List.mem_append_left _ hx
      · exact List.mem_append_right _ (List.mem_cons_of_mem _ (ih hw))
theorem head_dot {l : List UInt8} (h : hasB l 46 = true) : pgN false l = none := by
  cases e : pgN false l with
  | none => rfl
  | some xs =>
    exfalso
    have hm : (46 : UInt8) ∈ l := by
      by_cases c : (46 : UInt8) ∈ l
      · exact c
      · rw [hasB_no c] at h; cases h
    unfold pgN at e
    by_cases c : l = []
    · subst c; cases hm
    · rw [if_neg c] at e
      rw [← joinC_split 58 l] at hm
      obtain ⟨w, hw, hx⟩ := mem_joinC (by decide) hm
      exact pgF_dot _ _ e w hw hx
theorem head_same {l : List UInt8} (h : hasB l 46 = false) : pgN true l = pgN false l := by
  unfold pgN
  by_cases c : l = []
  · rw [if_pos c, if_pos c]
  · rw [if_neg c, if_neg c]
    refine pgF_end _ fun p hp => ?_
    cases hb : hasB p 46 with
    | false => rfl
    | true =>
      exfalso
      have hm : (46 : UInt8) ∈ p := by
        by_cases c : (46 : UInt8) ∈ p
        · exact c
        · rw [hasB_no c] at hb; cases hb
      rw [hasB_yes (mem_part hp hm)] at h
      cases h
end Go.Proofs.YtboddbheljenhaaGreatDoor
