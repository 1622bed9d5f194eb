/-
  ref01.groups of any text, as one contract.
-/
import Derived.Test.YtboddbheljenhaaGreatDoorRg1
import Derived.Test.YtboddbheljenhaaGreatDoorG13
import Derived.Test.YtboddbheljenhaaGreatDoorG15
import Derived.Test.YtboddbheljenhaaGreatDoorG16
namespace Go.Proofs.YtboddbheljenhaaGreatDoor
open Go.RowKit
def rgN (l : List UInt8) : Option (List Nat) := if l = [] then some [] else rgF (splitC 58 l)
def rgV (l : List UInt8) : AVal := match rgN l with
  | some xs => .tuple [.ro (ints .u8 (nats xs)), .val (.bool true)]
  | none => .tuple [.val (.slice none 0 0), .val (.bool false)]
set_option maxHeartbeats 16000000 in
set_option maxRecDepth 100000 in
theorem rgs_nil : Spec Tryz.prog 84 [.val (bstr [])] [] (.tuple [.val (.slice none 0 0), .val (.bool true)]) [] := by
  have d : (([] : List UInt8) == []) = true := rfl
  refine spec_of_awp Tryz.func84 rfl (Nat.le_of_ble_eq_true rfl) fun ini => ?_
  simp only [Tryz.ntmps84]
  (repeat (first | refine awp_reg_seq rfl fun k => ?_ | refine awp_seq ?_ | refine awp_true rfl ?_ | (refine awp_ret ?_; (apply ends_pure ?_ ?_ ?_ ?_ ?_ (.inl rfl); rotate_left 1; (· (exact res_two rfl rfl rfl)); (· rfl); (· rfl); (· rfl); (· rfl))) | (((((apply runk0 rfl rfl (opok_seql rfl ?_ ?_) ?_; rotate_left 2; (· ((conv => (lhs; whnf)); try exact rfl)); (· ((conv => (lhs; whnf)); try exact rfl))))))) | (apply runk0 rfl rfl (opok_move rfl ?_) ?_; rotate_left 1; (· (conv => (lhs; whnf)))) | (apply runk0 rfl rfl (opok_assign rfl ?_) ?_; rotate_left 1; (· (conv => (lhs; whnf)))) | refine runk_end (by kernel_rfl) ?_))
theorem rgs_spec (l : List UInt8) (hl : l.length ≤ 100000) : Spec Tryz.prog 84 [.val (bstr l)] [] (rgV l) [] := by
  unfold rgV
  by_cases c : l = []
  · subst c
    exact rgs_nil.weak (.tuple (.cons (.one .nil) (.cons (.one (.same _)) .nil)))
  · have hp : rgN l = rgF (splitC 58 l) := by unfold rgN; rw [if_neg c]
    rw [hp]
    cases h : rgF (splitC 58 l) with
    | none => exact rgs_no l hl c h
    | some xs => exact (rgs_ok l hl c h).frz2 (by simp [nats])
end Go.Proofs.YtboddbheljenhaaGreatDoor
namespace Go.Proofs.YtboddbheljenhaaGreatDoor
open Go.RowKit
theorem rgN_pgN (l : List UInt8) : rgN l = (pgN true l).map grB := by
  unfold rgN pgN
  by_cases c : l = []
  · rw [if_pos c, if_pos c]; rfl
  · rw [if_neg c, if_neg c]; exact rgF_pgF _
theorem grB_len (xs : List Nat) : (grB xs).length = 2 * xs.length := by
  unfold grB
  induction xs with
  | nil => rfl
  | cons x r ih => rw [List.flatMap_cons, List.length_append, ih]; simp; omega
theorem grB_app (xs ys : List Nat) : grB (xs ++ ys) = grB xs ++ grB ys := by
  unfold grB
  rw [List.flatMap_append]
theorem grB_zero : ∀ n : Nat, grB (List.replicate n 0) = List.replicate (2 * n) 0
  | 0 => rfl
  | n + 1 => by
    have ih := grB_zero n
    have e : 2 * (n + 1) = 2 * n + 1 + 1 := by omega
    rw [e, List.replicate_succ, List.replicate_succ, List.replicate_succ, ← ih]
    rfl
theorem grB_lt {xs : List Nat} (h : ∀ x ∈ xs, x < 65536) : ∀ y ∈ grB xs, y < 256 := by
  unfold grB
  intro y hy
  obtain ⟨x, hx, hy⟩ := List.mem_flatMap.1 hy
  have := h x hx
  simp only [List.mem_cons, List.not_mem_nil, or_false] at hy
  omega
theorem bytes_nats {xs : List Nat} (h : ∀ x ∈ xs, x < 256) : Bytes (nats xs) := by
  intro z hz
  unfold nats at hz
  obtain ⟨x, hx, rfl⟩ := List.mem_map.1 hz
  have := h x hx
  exact ⟨by omega, by omega⟩
theorem from_grB {xs : List Nat} (h8 : xs.length = 8) (hb : ∀ x ∈ xs, x < 65536) : fromZ (nats (grB xs)) = jn8 xs ∧ fromE (nats (grB xs)) = 0 := by
  obtain ⟨a, b, c, d, e, f, g, i, rfl⟩ := list8 h8
  have hl : (nats (grB [a, b, c, d, e, f, g, i])).length = 16 := rfl
  unfold fromZ fromE
  rw [if_neg (by rw [hl]; decide), if_pos hl, if_pos (.inr hl)]
  refine ⟨?_, rfl⟩
  have e1 : numZ ((nats (grB [a, b, c, d, e, f, g, i])).take 8) = (jn a b c d : Int) := by
    simp only [grB, nats, List.flatMap_cons, List.flatMap_nil, List.cons_append, List.nil_append, List.map_cons, List.map_nil, List.take_succ_cons, List.take_zero, numZ, List.foldl_cons, List.foldl_nil, jn]
    omega
  have e2 : numZ ((nats (grB [a, b, c, d, e, f, g, i])).drop 8) = (jn e f g i : Int) := by
    simp only [grB, nats, List.flatMap_cons, List.flatMap_nil, List.cons_append, List.nil_append, List.map_cons, List.map_nil, List.drop_succ_cons, List.drop_zero, numZ, List.foldl_cons, List.foldl_nil, jn]
    omega
  rw [e1, e2]
  rfl
theorem from_four {n : Nat} (h : n < 4294967296) : fromZ (nats [n / 16777216 % 256, n / 65536 % 256, n / 256 % 256, n % 256]) = (false, 0, (n : Int)) ∧ fromE (nats [n / 16777216 % 256, n / 65536 % 256, n / 256 % 256, n % 256]) = 0 := by
  have hl : (nats [n / 16777216 % 256, n / 65536 % 256, n / 256 % 256, n % 256]).length = 4 := rfl
  unfold fromZ fromE
  rw [if_pos hl, if_pos (.inl hl)]
  refine ⟨?_, rfl⟩
  have e : numZ (nats [n / 16777216 % 256, n / 65536 % 256, n / 256 % 256, n % 256]) = (n : Int) := by
    simp only [nats, List.map_cons, List.map_nil, numZ, List.foldl_cons, List.foldl_nil]
    omega
  rw [e]
theorem prsA_four {l : List UInt8} (h : hasB l 58 = false) : prsA l = (p4N l).map fun n => (false, 0, (n : Int)) := by
  unfold prsA
  by_cases c : 45 < l.length
  · rw [if_pos c]
    cases e : p4N l with
    | none => rfl
    | some n =>
      have := p4N_len e
      omega
  · rw [if_neg c, if_neg (by rw [h]; decide)]
theorem pgN_bound {e : Bool} {l : List UInt8} {xs : List Nat} (h : pgN e l = some xs) : l.length ≤ 5 * xs.length + (if e = true then 5 else 0) := by
  unfold pgN at h
  by_cases c : l = []
  · subst c; simp
  · rw [if_neg c] at h
    have := pgF_bound e (splitC 58 l) xs (splitC_ne 58 l) h
    rw [joinC_split] at this
    exact this
theorem prsA_six {l : List UInt8} (h : hasB l 58 = true) : prsA l = (p6N l).map jn8 := by
  unfold prsA
  by_cases c : 45 < l.length
  · rw [if_pos c]
    cases e : p6N l with
    | none => rfl
    | some xs =>
      exfalso
      unfold p6N at e
      by_cases c2 : (Lib.cut l [58, 58]).2.2 = true
      · rw [if_pos c2] at e
        cases ea : pgN false (Lib.cut l [58, 58]).1 with
        | none => rw [ea] at e; cases e
        | some a =>
          rw [ea, Option.bind_some] at e
          cases eb : pgN true (Lib.cut l [58, 58]).2.1 with
          | none => rw [eb] at e; cases e
          | some b =>
            rw [eb, Option.bind_some] at e
            by_cases h8 : a.length + b.length < 8
            · have la := pgN_bound ea
              have lb := pgN_bound eb
              simp only [if_true] at lb
              rw [if_neg (by decide)] at la
              unfold Lib.cut at c2 la lb
              by_cases ci : 0 ≤ Lib.index l [58, 58]
              · rw [if_pos ci] at la lb
                simp only [List.length_take, List.length_drop, List.length_cons, List.length_nil] at la lb
                omega
              · rw [if_neg ci] at c2; cases c2
            · rw [if_neg h8] at e; cases e
      · rw [if_neg c2] at e
        cases ea : pgN true l with
        | none => rw [ea] at e; cases e
        | some a =>
          rw [ea, Option.bind_some] at e
          by_cases h8 : a.length = 8
          · have la := pgN_bound ea
            simp only [if_true] at la
            omega
          · rw [if_neg h8] at e; cases e
  · rw [if_neg c, if_pos h]
theorem p6N_one {l : List UInt8} (h : ¬ 0 ≤ Lib.index l [58, 58]) : p6N l = (pgN true l).bind fun xs => if xs.length = 8 then some xs else none := by
  have hc : Lib.cut l [58, 58] = (l, [], false) := by unfold Lib.cut; rw [if_neg h]
  unfold p6N
  rw [hc, if_neg Bool.false_ne_true]
theorem p6N_two {l : List UInt8} {i : Nat} (h : Lib.index l [58, 58] = (i : Int)) : p6N l = (pgN false (l.take i)).bind fun a => (pgN true (l.drop (i + 2))).bind fun b => if a.length + b.length < 8 then some (a ++ List.replicate (8 - a.length - b.length) 0 ++ b) else none := by
  have hc : Lib.cut l [58, 58] = (l.take i, l.drop (i + 2), true) := by
    unfold Lib.cut
    rw [h, if_pos (by omega), Int.toNat_natCast]
    rfl
  unfold p6N
  rw [hc, if_pos rfl]
end Go.Proofs.YtboddbheljenhaaGreatDoor
