/-
  What ref01.groups reads.
-/
import Derived.Test.YtmbmodeiikhnkaaGreatDoorRdg
import Derived.Test.YtmbmodeiikhnkaaGreatDoorPGg
import Derived.Test.YtmbmodeiikhnkaaGreatDoorG13
namespace Go.Proofs.YtmbmodeiikhnkaaGreatDoor
open Go.RowKit
/-- The bytes that parts are read as. -/
def rgF : List (List UInt8) → Option (List Nat)
  | [] => some []
  | p :: r => if (r.isEmpty && hasB p 46) = true then fourN p else (grpN p).bind fun x => (rgF r).map ([x / 256, x % 256] ++ ·)
theorem rgF_step {ps : List (List UInt8)} {i : Nat} {p : List UInt8} (hp : ps[i]? = some p) : rgF (ps.drop i) = if (decide (i + 1 = ps.length) && hasB p 46) = true then fourN p else (grpN p).bind fun x => (rgF (ps.drop (i + 1))).map ([x / 256, x % 256] ++ ·) := by
  have hi : i < ps.length := by
    rcases Nat.lt_or_ge i ps.length with h | h
    · exact h
    · rw [List.getElem?_eq_none h] at hp; cases hp
  rw [List.getElem?_eq_getElem hi] at hp
  rw [List.drop_eq_getElem_cons hi, Option.some.inj hp]
  have e1 : (ps.drop (i + 1)).isEmpty = decide (i + 1 = ps.length) := by
    rw [Bool.eq_iff_iff, decide_eq_true_iff, List.isEmpty_iff, List.drop_eq_nil_iff]
    omega
  conv => lhs; unfold rgF
  rw [e1]
theorem octL_len : ∀ (ps : List (List UInt8)) (xs : List Nat), octL ps = some xs → xs.length = ps.length
  | [], xs, h => by cases h; rfl
  | p :: r, xs, h => by
    unfold octL at h
    cases e : octN p with
    | none => rw [e] at h; cases h
    | some n =>
      rw [e, Option.bind_some] at h
      cases e5 : octL r with
      | none => rw [e5] at h; cases h
      | some ys =>
        rw [e5] at h
        cases h
        simp [octL_len r ys e5]
end Go.Proofs.YtmbmodeiikhnkaaGreatDoor
namespace Go.Proofs.YtmbmodeiikhnkaaGreatDoor
open Go.RowKit
theorem four_p4 (l : List UInt8) : fourN l = (p4N l).map fun n => [n / 16777216 % 256, n / 65536 % 256, n / 256 % 256, n % 256] := by
  unfold fourN p4N
  by_cases h : (splitC 46 l).length = 4
  · rw [if_pos h, if_pos h]
    generalize splitC 46 l = ps at *
    match ps, h with
    | [a, b, c, d], _ =>
      simp only [octL, octF]
      cases ea : octN a with
      | none => rfl
      | some x =>
        cases eb : octN b with
        | none => rfl
        | some y =>
          cases ec : octN c with
          | none => rfl
          | some z =>
            cases ed : octN d with
            | none => rfl
            | some w =>
              have h1 := (octN_some.1 ea).1
              have h2 := (octN_some.1 eb).1
              have h3 := (octN_some.1 ec).1
              have h4 := (octN_some.1 ed).1
              simp only [Option.bind_some, Option.map_some]
              congr 1
              have e1 : ((((0 * 256 + x) * 256 + y) * 256 + z) * 256 + w) / 16777216 % 256 = x := by omega
              have e2 : ((((0 * 256 + x) * 256 + y) * 256 + z) * 256 + w) / 65536 % 256 = y := by omega
              have e3 : ((((0 * 256 + x) * 256 + y) * 256 + z) * 256 + w) / 256 % 256 = z := by omega
              have e4 : ((((0 * 256 + x) * 256 + y) * 256 + z) * 256 + w) % 256 = w := by omega
              rw [e1, e2, e3, e4]
  · rw [if_neg h, if_neg h]; rfl
/-- The bytes of groups. -/
def grB (xs : List Nat) : List Nat := xs.flatMap fun x => [x / 256, x % 256]
/-- The reference's groups are the program's, as bytes. -/
theorem rgF_pgF : ∀ ps : List (List UInt8), rgF ps = (pgF true ps).map grB
  | [] => rfl
  | p :: r => by
    unfold rgF pgF
    rw [Bool.true_and]
    by_cases c : (r.isEmpty && hasB p 46) = true
    · rw [if_pos c, if_pos c, four_p4, Option.map_map]
      cases p4N p with
      | none => rfl
      | some n =>
        simp only [Option.map_some, Function.comp, grB, List.flatMap_cons, List.flatMap_nil]
        congr 1
        have e1 : n / 65536 % 65536 / 256 = n / 16777216 % 256 := by omega
        have e2 : n / 65536 % 65536 % 256 = n / 65536 % 256 := by omega
        have e3 : n % 65536 / 256 = n / 256 % 256 := by omega
        have e4 : n % 65536 % 256 = n % 256 := by omega
        rw [e1, e2, e3, e4]
        rfl
    · rw [if_neg c, if_neg c, rgF_pgF r]
      cases grpN p with
      | none => rfl
      | some x =>
        simp only [Option.bind_some]
        cases pgF true r with
        | none => rfl
        | some ys => rfl
/-- The groups of a text in which no dot stands are the same, whether an address without V6 may end it or not. -/
theorem pgF_end : ∀ ps : List (List UInt8), (∀ p ∈ ps, hasB p 46 = false) → pgF true ps = pgF false ps
  | [], _ => rfl
  | p :: r, h => by
    unfold pgF
    rw [h p List.mem_cons_self, Bool.and_false, Bool.and_false, pgF_end r fun q hq => h q (List.mem_cons_of_mem _ hq)]
end Go.Proofs.YtmbmodeiikhnkaaGreatDoor
namespace Go.Proofs.YtmbmodeiikhnkaaGreatDoor
open Go.RowKit
theorem octN_len {p : List UInt8} {n : Nat} (h : octN p = some n) : p.length ≤ 3 := by
  obtain ⟨h1, h2⟩ := octN_some.1 h
  have : ∀ k : Fin 256, (Lib.decDigits k.val).length ≤ 3 := by decide +kernel
  rw [← h2]
  exact this ⟨n, h1⟩
theorem p4N_len {l : List UInt8} {n : Nat} (h : p4N l = some n) : l.length ≤ 15 := by
  unfold p4N at h
  have hj := joinC_split 46 l
  by_cases c : (splitC 46 l).length = 4
  · rw [if_pos c] at h
    generalize splitC 46 l = ps at *
    match ps, c with
    | [a, b, c, d], _ =>
      simp only [octF] at h
      cases ea : octN a with
      | none => rw [ea] at h; cases h
      | some x =>
        rw [ea, Option.bind_some] at h
        cases eb : octN b with
        | none => rw [eb] at h; cases h
        | some y =>
          rw [eb, Option.bind_some] at h
          cases ec : octN c with
          | none => rw [ec] at h; cases h
          | some z =>
            rw [ec, Option.bind_some] at h
            cases ed : octN d with
            | none => rw [ed] at h; cases h
            | some w =>
              have h1 := octN_len ea
              have h2 := octN_len eb
              have h3 := octN_len ec
              have h4 := octN_len ed
              rw [← hj]
              simp only [joinC, List.length_append, List.length_cons]
              omega
  · rw [if_neg c] at h; cases h
theorem grpN_len {p : List UInt8} {n : Nat} (h : grpN p = some n) : p.length ≤ 4 := by
  unfold grpN at h
  by_cases c : p.length ≤ 4
  · exact c
  · rw [if_neg c] at h; cases h
theorem joinC_len (c : UInt8) (w : List UInt8) {ws : List (List UInt8)} (h : ws ≠ []) : (joinC c (w :: ws)).length = w.length + 1 + (joinC c ws).length := by
  rw [joinC_cons c w h, List.length_append, List.length_cons]
  omega
/-- A text of groups has at most five bytes for each, and five more where four numbers end it. -/
theorem pgF_bound (e : Bool) : ∀ (ps : List (List UInt8)) (xs : List Nat), ps ≠ [] → pgF e ps = some xs → (joinC 58 ps).length ≤ 5 * xs.length + (if e = true then 5 else 0)
  | [], xs, h, _ => absurd rfl h
  | [p], xs, _, h => by
    unfold pgF at h
    have hj : (joinC 58 [p]).length = p.length := by simp [joinC]
    rw [hj]
    by_cases c : (e && ([] : List (List UInt8)).isEmpty && hasB p 46) = true
    · rw [if_pos c] at h
      have he : e = true := by cases e; simp at c; rfl
      rw [if_pos he]
      cases e4 : p4N p with
      | none => rw [e4] at h; cases h
      | some n =>
        rw [e4] at h
        cases h
        have := p4N_len e4
        simp
        omega
    · rw [if_neg c] at h
      cases e4 : grpN p with
      | none => rw [e4] at h; cases h
      | some n =>
        rw [e4] at h
        cases h
        have := grpN_len e4
        simp
        omega
  | p :: q :: r, xs, _, h => by
    rw [joinC_len 58 p (by simp)]
    unfold pgF at h
    have c : ¬ (e && (q :: r).isEmpty && hasB p 46) = true := by simp
    rw [if_neg c] at h
    cases e4 : grpN p with
    | none => rw [e4] at h; cases h
    | some n =>
      rw [e4, Option.bind_some] at h
      cases e5 : pgF e (q :: r) with
      | none => rw [e5] at h; cases h
      | some ys =>
        rw [e5] at h
        cases h
        have ih := pgF_bound e (q :: r) ys (by simp) e5
        have := grpN_len e4
        simp only [List.length_cons]
        omega
end Go.Proofs.YtmbmodeiikhnkaaGreatDoor
namespace Go.Proofs.YtmbmodeiikhnkaaGreatDoor
open Go.RowKit
theorem hexN_mem : ∀ (l : List UInt8) (acc n : Nat), hexN acc l = some n → ∀ x ∈ l, (hexV x).isSome = true
  | [], _, _, _ => by simp
  | c :: r, acc, n, h => by
    unfold hexN at h
    cases e : hexV c with
    | none => rw [e] at h; cases h
    | some d =>
      rw [e] at h
      intro x hx
      rcases List.mem_cons.1 hx with rfl | hx
      · rw [e]; rfl
      · exact hexN_mem r _ n h x hx
theorem grpN_dot {p : List UInt8} {n : Nat} (h : grpN p = some n) : (46 : UInt8) ∉ p := fun hm => by
  unfold grpN hexP at h
  by_cases c : p.length ≤ 4
  · rw [if_pos c] at h
    by_cases c2 : p = []
    · rw [if_pos c2] at h; cases h
    · rw [if_neg c2] at h
      have := hexN_mem p 0 n h 46 hm
      revert this
      decide
  · rw [if_neg c] at h; cases h
/-- Groups alone have no dot. -/
theorem pgF_dot : ∀ (ps : List (List UInt8)) (xs : List Nat), pgF false ps = some xs → ∀ p ∈ ps, (46 : UInt8) ∉ p
  | [], _, _ => by simp
  | q :: r, xs, h => by
    unfold pgF at h
    rw [Bool.false_and, Bool.false_and, if_neg (by decide)] at h
    cases e : grpN q with
    | none => rw [e] at h; cases h
    | some n =>
      rw [e, Option.bind_some] at h
      cases e5 : pgF false r with
      | none => rw [e5] at h; cases h
      | some ys =>
        intro p hp
        rcases List.mem_cons.1 hp with rfl | hp
        · exact grpN_dot e
        · exact pgF_dot r ys e5 p hp
theorem mem_joinC {c x : UInt8} (hx : x ≠ c) : ∀ {ws : List (List UInt8)}, x ∈ joinC c ws → ∃ w ∈ ws, x ∈ w
  | [], h => by simp [joinC] at h
  | [w], h => ⟨w, by simp, by simpa [joinC] using h⟩
  | w :: v :: ws, h => by
    rw [joinC_cons c w (by simp)] at h
    rcases List.mem_append.1 h with h | h
    · exact ⟨w, by simp, h⟩
    · rcases List.mem_cons.1 h with h | h
      · exact absurd h hx
      · obtain ⟨u, hu, hxu⟩ := mem_joinC hx h
        exact ⟨u, List.mem_cons_of_mem _ hu, hxu⟩
theorem mem_part {c : UInt8} {l w : List UInt8} (hw : w ∈ splitC c l) {x : UInt8} (hx : x ∈ w) : x ∈ l := by
  rw [← joinC_split c l]
  revert hw
  generalize splitC c l = ps
  intro hw
  induction ps with
  | nil => cases hw
  | cons v ws ih =>
    cases ws with
    | nil =>
      simp at hw
      subst hw
      simpa [joinC] using hx
    | cons u us =>
      rw [joinC_cons c v (by simp)]
      rcases List.mem_cons.1 hw with rfl | hw
      · exact List.mem_append_left _ hx
      · exact List.mem_append_right _ (List.mem_cons_of_mem _ (ih hw))
/-- A head: with a dot, neither reads it; without, both read the same. -/
theorem head_dot {l : List UInt8} (h : hasB l 46 = true) : pgN false l = none := by
  cases e : pgN false l with
  | none => rfl
  | some xs =>
    exfalso
    have hm : (46 : UInt8) ∈ l := by
      by_cases c : (46 : UInt8) ∈ l
      · exact c
      · rw [hasB_no c] at h; cases h
    unfold pgN at e
    by_cases c : l = []
    · subst c; cases hm
    · rw [if_neg c] at e
      rw [← joinC_split 58 l] at hm
      obtain ⟨w, hw, hx⟩ := mem_joinC (by decide) hm
      exact pgF_dot _ _ e w hw hx
theorem head_same {l : List UInt8} (h : hasB l 46 = false) : pgN true l = pgN false l := by
  unfold pgN
  by_cases c : l = []
  · rw [if_pos c, if_pos c]
  · rw [if_neg c, if_neg c]
    refine pgF_end _ fun p hp => ?_
    cases hb : hasB p 46 with
    | false => rfl
    | true =>
      exfalso
      have hm : (46 : UInt8) ∈ p := by
        by_cases c : (46 : UInt8) ∈ p
        · exact c
        · rw [hasB_no c] at hb; cases hb
      rw [hasB_yes (mem_part hp hm)] at h
      cases h
end Go.Proofs.YtmbmodeiikhnkaaGreatDoor
